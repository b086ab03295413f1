/- SpecTypes, walked. -/
import Derived.Test.YtnkdchajgpkmpaaSlif
import Derived.Deep.RegionHeld3
namespace Go.Proofs.Ytnkdchajgpkmpaa
open Go.RowKit

theorem jobB_two (id pr pa : Int) (L : List Gp) : jobB id 2 pr pa L = jobB id 1 pr pa L := by
  unfold jobB
  have e : (grpB 2) = (grpB 1) := rfl
  have e2 : inB 1 3 2 = inB 1 3 1 := rfl
  rw [e, e2]
def onesB (L : List Gp) : Bool := L.all fun g => decide (g.n = 1)
theorem jobB_three (id pr pa : Int) (L : List Gp) : jobB id 3 pr pa L = (jobB id 1 pr pa L && onesB L) := by
  have h : L.all (grpB 3) = (L.all (grpB 1) && onesB L) := by
    unfold onesB
    induction L with
    | nil => rfl
    | cons g L ih =>
      simp only [List.all_cons, ih]
      have : grpB 3 g = (grpB 1 g && decide (g.n = 1)) := by
        unfold grpB
        rw [Bool.eq_iff_iff]
        have e1 : loN 3 = 1 := rfl
        have e2 : hiN 3 = 1 := rfl
        have e3 : loN 1 = 0 := rfl
        have e4 : hiN 1 = 4 := rfl
        simp only [Bool.and_eq_true, inB_true, decide_eq_true_iff, e1, e2, e3, e4]
        omega
      rw [this]
      cases grpB 1 g <;> cases decide (g.n = 1) <;> simp
  unfold jobB
  rw [h]
  have e2 : inB 1 3 3 = inB 1 3 1 := rfl
  rw [e2]
  cases inB 1 1099511627776 id <;> cases inB 1 3 1 <;> cases inB 1 100 pr <;> cases inB 1 8 pa <;> cases inB 1 2 (L.length : Int) <;> simp

theorem errJ_ff : errJ (false && false) = 30 := rfl
theorem errJ_ft : errJ (false && true) = 30 := rfl
theorem errJ_tf : errJ (true && false) = 30 := rfl
theorem errJ_tt : errJ (true && true) = 0 := rfl
structure TyS (w wk : World) (js j1 j2 j3 : Array Value) (a : Option Addr) (L : List Gp) : Prop where
  j : JbS w wk js a L
  x1 : wk.heap[w.heap.size + 1]? = some (.cells j1 24 (0, 0))
  x2 : wk.heap[w.heap.size + 1 + 1]? = some (.cells j2 24 (0, 0))
  x3 : wk.heap[w.heap.size + 1 + 1 + 1]? = some (.cells j3 24 (0, 0))
theorem TyS.grow {w wk w' : World} {js j1 j2 j3 : Array Value} {a : Option Addr} {L : List Gp} (h : TyS w wk js j1 j2 j3 a L) (hb : Below wk.heap.size wk w') : TyS w w' js j1 j2 j3 a L :=
  ⟨h.j.grow hb, (hb.block _ (heap_lt h.x1)).trans h.x1, (hb.block _ (heap_lt h.x2)).trans h.x2, (hb.block _ (heap_lt h.x3)).trans h.x3⟩
theorem TyS.begin (w : World) (js j1 j2 j3 : Array Value) (a : Option Addr) (L : List Gp) (h : Grs w a L) : TyS w ((((w.alloc (.cells js 24)).alloc (.cells j1 24)).alloc (.cells j2 24)).alloc (.cells j3 24)).drew js j1 j2 j3 a L := by
  have e1 := heap_alloc_new (w.alloc (.cells js 24)) (.cells j1 24)
  have e2 := heap_alloc_new ((w.alloc (.cells js 24)).alloc (.cells j1 24)) (.cells j2 24)
  have e3 := heap_alloc_new (((w.alloc (.cells js 24)).alloc (.cells j1 24)).alloc (.cells j2 24)) (.cells j3 24)
  rw [show (w.alloc (.cells js 24)).heap.size = w.heap.size + 1 by simp] at e1
  rw [show ((w.alloc (.cells js 24)).alloc (.cells j1 24)).heap.size = w.heap.size + 1 + 1 by simp] at e2
  rw [show (((w.alloc (.cells js 24)).alloc (.cells j1 24)).alloc (.cells j2 24)).heap.size = w.heap.size + 1 + 1 + 1 by simp] at e3
  refine ⟨((((JbS.begin w js a L h).grow (below1 _ _)).grow (below1 _ _)).grow (below1 _ _)).grow (Below.refl _ _).drew, ?_, ?_, e3⟩
  · exact ((below1 _ _).block _ (by simp)).trans (((below1 _ _).block _ (by simp)).trans e1)
  · exact ((below1 _ _).block _ (by simp)).trans e2
theorem TyS.c7 {w wk : World} {js j3 : Array Value} {id pr pa ve : Int} {st : Bool} {a : Option Addr} {cap : Nat} {L : List Gp} (h : TyS w wk js #[.int .i64 id, .int .i64 1, .int .i64 pr, .int .i64 pa, .slice a L.length cap, .int .i64 ve, .bool st] #[.int .i64 id, .int .i64 2, .int .i64 pr, .int .i64 pa, .slice a L.length cap, .int .i64 ve, .bool st] j3 a L) : wk.cell? ⟨w.heap.size + 1, 0, none⟩ = some (.int .i64 id) ∧ wk.cell? ⟨w.heap.size + 1, 1, none⟩ = some (.int .i64 1) ∧ wk.cell? ⟨w.heap.size + 1, 2, none⟩ = some (.int .i64 pr) ∧ wk.cell? ⟨w.heap.size + 1, 3, none⟩ = some (.int .i64 pa) ∧ wk.cell? ⟨w.heap.size + 1, 4, none⟩ = some (.slice a L.length cap) ∧ wk.cell? ⟨w.heap.size + 1, 5, none⟩ = some (.int .i64 ve) ∧ wk.cell? ⟨w.heap.size + 1, 6, none⟩ = some (.bool st) ∧ wk.cell? ⟨w.heap.size + 1 + 1, 0, none⟩ = some (.int .i64 id) ∧ wk.cell? ⟨w.heap.size + 1 + 1, 1, none⟩ = some (.int .i64 2) ∧ wk.cell? ⟨w.heap.size + 1 + 1, 2, none⟩ = some (.int .i64 pr) ∧ wk.cell? ⟨w.heap.size + 1 + 1, 3, none⟩ = some (.int .i64 pa) ∧ wk.cell? ⟨w.heap.size + 1 + 1, 4, none⟩ = some (.slice a L.length cap) ∧ wk.cell? ⟨w.heap.size + 1 + 1, 5, none⟩ = some (.int .i64 ve) ∧ wk.cell? ⟨w.heap.size + 1 + 1, 6, none⟩ = some (.bool st) :=
  ⟨cell_of_row wk _ 0 _ 24 (0, 0) h.x1, cell_of_row wk _ 1 _ 24 (0, 0) h.x1, cell_of_row wk _ 2 _ 24 (0, 0) h.x1, cell_of_row wk _ 3 _ 24 (0, 0) h.x1, cell_of_row wk _ 4 _ 24 (0, 0) h.x1, cell_of_row wk _ 5 _ 24 (0, 0) h.x1, cell_of_row wk _ 6 _ 24 (0, 0) h.x1, cell_of_row wk _ 0 _ 24 (0, 0) h.x2, cell_of_row wk _ 1 _ 24 (0, 0) h.x2, cell_of_row wk _ 2 _ 24 (0, 0) h.x2, cell_of_row wk _ 3 _ 24 (0, 0) h.x2, cell_of_row wk _ 4 _ 24 (0, 0) h.x2, cell_of_row wk _ 5 _ 24 (0, 0) h.x2, cell_of_row wk _ 6 _ 24 (0, 0) h.x2⟩
theorem TyS.c14 {w wk : World} {js j2 : Array Value} {id pr pa ve : Int} {st : Bool} {a : Option Addr} {cap : Nat} {L : List Gp} (h : TyS w wk js #[.int .i64 id, .int .i64 1, .int .i64 pr, .int .i64 pa, .slice a L.length cap, .int .i64 ve, .bool st] j2 #[.int .i64 id, .int .i64 3, .int .i64 pr, .int .i64 pa, .slice a L.length cap, .int .i64 ve, .bool st] a L) : wk.cell? ⟨w.heap.size + 1 + 1 + 1, 0, none⟩ = some (.int .i64 id) ∧ wk.cell? ⟨w.heap.size + 1 + 1 + 1, 1, none⟩ = some (.int .i64 3) ∧ wk.cell? ⟨w.heap.size + 1 + 1 + 1, 2, none⟩ = some (.int .i64 pr) ∧ wk.cell? ⟨w.heap.size + 1 + 1 + 1, 3, none⟩ = some (.int .i64 pa) ∧ wk.cell? ⟨w.heap.size + 1 + 1 + 1, 4, none⟩ = some (.slice a L.length cap) ∧ wk.cell? ⟨w.heap.size + 1 + 1 + 1, 5, none⟩ = some (.int .i64 ve) ∧ wk.cell? ⟨w.heap.size + 1 + 1 + 1, 6, none⟩ = some (.bool st) ∧ wk.cell? ⟨w.heap.size + 1, 0, none⟩ = some (.int .i64 id) ∧ wk.cell? ⟨w.heap.size + 1, 1, none⟩ = some (.int .i64 1) ∧ wk.cell? ⟨w.heap.size + 1, 2, none⟩ = some (.int .i64 pr) ∧ wk.cell? ⟨w.heap.size + 1, 3, none⟩ = some (.int .i64 pa) ∧ wk.cell? ⟨w.heap.size + 1, 4, none⟩ = some (.slice a L.length cap) ∧ wk.cell? ⟨w.heap.size + 1, 5, none⟩ = some (.int .i64 ve) ∧ wk.cell? ⟨w.heap.size + 1, 6, none⟩ = some (.bool st) :=
  ⟨cell_of_row wk _ 0 _ 24 (0, 0) h.x3, cell_of_row wk _ 1 _ 24 (0, 0) h.x3, cell_of_row wk _ 2 _ 24 (0, 0) h.x3, cell_of_row wk _ 3 _ 24 (0, 0) h.x3, cell_of_row wk _ 4 _ 24 (0, 0) h.x3, cell_of_row wk _ 5 _ 24 (0, 0) h.x3, cell_of_row wk _ 6 _ 24 (0, 0) h.x3, cell_of_row wk _ 0 _ 24 (0, 0) h.x1, cell_of_row wk _ 1 _ 24 (0, 0) h.x1, cell_of_row wk _ 2 _ 24 (0, 0) h.x1, cell_of_row wk _ 3 _ 24 (0, 0) h.x1, cell_of_row wk _ 4 _ 24 (0, 0) h.x1, cell_of_row wk _ 5 _ 24 (0, 0) h.x1, cell_of_row wk _ 6 _ 24 (0, 0) h.x1⟩
theorem TyS.drew {w wk : World} {js j1 j2 j3 : Array Value} {a : Option Addr} {L : List Gp} (h : TyS w wk js j1 j2 j3 a L) : TyS w wk.drew js j1 j2 j3 a L := h.grow (Below.refl _ _).drew
def onesTo (L : List Gp) (k : Nat) : Bool := onesB (L.take k)
theorem onesTo_succ (L : List Gp) (k : Nat) (h : k < L.length) : onesTo L (k + 1) = (onesTo L k && decide ((gt L k).n = 1)) := by
  unfold onesTo onesB
  have e : gt L k = L[k] := by simp [gt, h]
  rw [List.take_succ_eq_append_getElem h, List.all_append, e]
  simp

set_option maxHeartbeats 8000000 in
set_option maxRecDepth 100000 in
theorem lawTypes (id ty pr pa ve : Int) (st : Bool) (a : Option Addr) (cap : Nat) (L : List Gp) (w : World) (hg : Grs w a L) (hlm : L.length ≤ maxLen) :
    Calls Try.prog 7 #[.agg #[.int .i64 id, .int .i64 ty, .int .i64 pr, .int .i64 pa, .slice a L.length cap, .int .i64 ve, .bool st]] w fun e w' => e = .returned (.bool true) ∧ Below w.heap.size w w' := by
  have H0 := hidOf (TyS.begin w #[.int .i64 id, .int .i64 ty, .int .i64 pr, .int .i64 pa, .slice a L.length cap, .int .i64 ve, .bool st] #[.int .i64 id, .int .i64 1, .int .i64 pr, .int .i64 pa, .slice a L.length cap, .int .i64 ve, .bool st] #[.int .i64 id, .int .i64 2, .int .i64 pr, .int .i64 pa, .slice a L.length cap, .int .i64 ve, .bool st] #[.int .i64 id, .int .i64 3, .int .i64 pr, .int .i64 pa, .slice a L.length cap, .int .i64 ve, .bool st] a L hg)
  have q1 := fun w h => job_any id 1 pr pa ve st a cap L w h
  have q2 := fun w h => job_any id 2 pr pa ve st a cap L w h
  have q3 := fun w h => job_any id 3 pr pa ve st a cap L w h
  rw [jobB_two] at q2
  rw [jobB_three] at q3
  generalize jobB id 1 pr pa L = d1 at *
  have C1 := hidOf q1
  have C2 := hidOf q2
  have C3 := hidOf q3
  clear hg q1 q2 q3
  unfold maxLen at hlm
  have T1 : True := trivial
  go_enter Try.func7, Try.ntmps7
  go_wp2
  go_region_held3 (fun w' => w'.cell? ⟨w.heap.size + 1, 0, none⟩ = some (.int .i64 id) ∧ w'.cell? ⟨w.heap.size + 1, 1, none⟩ = some (.int .i64 1) ∧ w'.cell? ⟨w.heap.size + 1, 2, none⟩ = some (.int .i64 pr) ∧ w'.cell? ⟨w.heap.size + 1, 3, none⟩ = some (.int .i64 pa) ∧ w'.cell? ⟨w.heap.size + 1, 4, none⟩ = some (.slice a L.length cap) ∧ w'.cell? ⟨w.heap.size + 1, 5, none⟩ = some (.int .i64 ve) ∧ w'.cell? ⟨w.heap.size + 1, 6, none⟩ = some (.bool st) ∧ w'.cell? ⟨w.heap.size + 1 + 1, 0, none⟩ = some (.int .i64 id) ∧ w'.cell? ⟨w.heap.size + 1 + 1, 1, none⟩ = some (.int .i64 2) ∧ w'.cell? ⟨w.heap.size + 1 + 1, 2, none⟩ = some (.int .i64 pr) ∧ w'.cell? ⟨w.heap.size + 1 + 1, 3, none⟩ = some (.int .i64 pa) ∧ w'.cell? ⟨w.heap.size + 1 + 1, 4, none⟩ = some (.slice a L.length cap) ∧ w'.cell? ⟨w.heap.size + 1 + 1, 5, none⟩ = some (.int .i64 ve) ∧ w'.cell? ⟨w.heap.size + 1 + 1, 6, none⟩ = some (.bool st)) (first | exact H0.out.c7 | exact H1.out.c7 | exact H2.out.c7 | go_keep) (first
    | (go_at_call 8; have hh := T1; clear T1; refine (C1.out _ H0.out.j.g).mono ?_; rintro e w1 ⟨rfl, hb⟩; have H1 := hidOf (H0.out.grow hb); clear hb)
    | (go_at_call 8; refine (C2.out _ H1.out.j.g).mono ?_; rintro e w2 ⟨rfl, hb⟩; have H2 := hidOf (H1.out.grow hb); clear hb))
  go_wp2
  have T2 : True := trivial
  obtain ⟨_, _, _, _, c4⟩ := H2.out.j.cells
  have lj := heap_lt H2.out.j.j
  clear H0 H1
  go_loop [6, 7] (fun o i => ∃ k : Nat, k ≤ L.length ∧ i = .int .i64 (k : Int) ∧ o = .bool (onesTo L k)) (fun _ i => L.length - (intOf i).toNat)
  case atStart => exact ⟨0, Nat.zero_le _, rfl, rfl⟩
  case round =>
    obtain ⟨k, hk, rfl, rfl⟩ := hrel
    by_cases hlt : k < L.length
    · have hltz : (k : Int) < (L.length : Int) := by omega
      obtain ⟨b, off, hab, hbl, g0, g1, g2⟩ := H2.out.j.g.at k hlt
      subst hab
      have HS := hidOf (onesTo_succ L k hlt)
      obtain ⟨v, hv⟩ : ∃ v, v = (gt L k).n := ⟨_, rfl⟩
      rw [← hv] at g0
      have HV := hidOf hv
      clear hv g1 g2
      cases ho : onesTo L k with
      | false =>
        have HO := hidOf ho
        clear ho
        go_wp2
        go_round
        case rel => exact ⟨k + 1, by omega, by go_num, by rw [HS.out, HO.out]; rfl⟩
        case measure => simp [intOf]; omega
      | true =>
        have HO := hidOf ho
        clear ho
        go_wp2
        go_round
        case rel => exact ⟨k + 1, by omega, by go_num, by rw [HS.out, HO.out, ← HV.out]; rfl⟩
        case measure => simp [intOf]; omega
    · have hltz : ¬ (k : Int) < (L.length : Int) := by omega
      have hkl : k = L.length := by omega
      have ho : onesTo L k = onesB L := by unfold onesTo; rw [hkl, List.take_length]
      rw [ho]
      clear ho hkl
      generalize onesB L = o at *
      cases d1
      · cases o
        · have z1 := C1.out
          have z3 := C3.out
          simp only [errJ_false] at z1
          simp only [errJ_ff] at z3
          replace C1 := hidOf z1
          replace C3 := hidOf z3
          clear z1 z3 C2
          go_wp2
          refine wp_region_held_drew (S := fun w' => w'.cell? ⟨w.heap.size + 1 + 1 + 1, 0, none⟩ = some (.int .i64 id) ∧ w'.cell? ⟨w.heap.size + 1 + 1 + 1, 1, none⟩ = some (.int .i64 3) ∧ w'.cell? ⟨w.heap.size + 1 + 1 + 1, 2, none⟩ = some (.int .i64 pr) ∧ w'.cell? ⟨w.heap.size + 1 + 1 + 1, 3, none⟩ = some (.int .i64 pa) ∧ w'.cell? ⟨w.heap.size + 1 + 1 + 1, 4, none⟩ = some (.slice a L.length cap) ∧ w'.cell? ⟨w.heap.size + 1 + 1 + 1, 5, none⟩ = some (.int .i64 ve) ∧ w'.cell? ⟨w.heap.size + 1 + 1 + 1, 6, none⟩ = some (.bool st) ∧ w'.cell? ⟨w.heap.size + 1, 0, none⟩ = some (.int .i64 id) ∧ w'.cell? ⟨w.heap.size + 1, 1, none⟩ = some (.int .i64 1) ∧ w'.cell? ⟨w.heap.size + 1, 2, none⟩ = some (.int .i64 pr) ∧ w'.cell? ⟨w.heap.size + 1, 3, none⟩ = some (.int .i64 pa) ∧ w'.cell? ⟨w.heap.size + 1, 4, none⟩ = some (.slice a L.length cap) ∧ w'.cell? ⟨w.heap.size + 1, 5, none⟩ = some (.int .i64 ve) ∧ w'.cell? ⟨w.heap.size + 1, 6, none⟩ = some (.bool st)) (by kernel_rfl) H2.out.drew.c14 (fun hHeld => ?_)
          refine wpAnyH_take (i := 0) (oi := { dst := some 36, op := Op.load 24 (Operand.tmp 5), type := 24, pos := "law.go:94", after := #[], guard := none }) (v := .agg #[.int .i64 id, .int .i64 3, .int .i64 pr, .int .i64 pa, .slice a L.length cap, .int .i64 ve, .bool st]) rfl (by kernel_rfl) (by kernel_rfl) (by kernel_rfl) (fun _ _ _ h => h) (Or.inl ⟨by rfl, ?_⟩) hHeld ?_
          · (intro w hSw; (try dsimp only at hSw); go_simp)
          try simp only [Act.put, List.setIfInBounds_toArray, List.set_cons_zero, List.set_cons_succ]
          refine wpAnyH_take (i := 3) (oi := { dst := some 39, op := Op.load 24 (Operand.tmp 3), type := 24, pos := "law.go:94", after := #[], guard := none }) (v := .agg #[.int .i64 id, .int .i64 1, .int .i64 pr, .int .i64 pa, .slice a L.length cap, .int .i64 ve, .bool st]) rfl (by kernel_rfl) (by kernel_rfl) (by kernel_rfl) (fun _ _ _ h => h) (Or.inl ⟨by rfl, ?_⟩) hHeld ?_
          · (intro w hSw; (try dsimp only at hSw); go_simp)
          try simp only [Act.put, List.setIfInBounds_toArray, List.set_cons_zero, List.set_cons_succ]
          refine wpAnyH_ready (rs := [1]) (by kernel_rfl) (by simp) ?_
          refine AllReadyH.cons (o := { dst := some 37, op := Op.call { callee := Callee.value (Operand.func 8), args := #[Operand.tmp 36], argTypes := #[24] }, type := 29, pos := "law.go:94", after := #[{ on := 0, ground := Ground.data }], guard := none }) rfl (fun K hK => ?_) AllReadyH.nil
          go_simp
          refine (C3.out _ H2.out.drew.j.g).mono ?_
          rintro e w3 ⟨rfl, hb⟩
          have H3 := hidOf (H2.out.drew.grow hb)
          clear hb
          refine hK.out _ _ H3.out.c14 (fun hHeld1 => ?_)
          clear hK K
          try simp only [Act.put, List.setIfInBounds_toArray, List.set_cons_zero, List.set_cons_succ]
          refine wpAnyH_take (i := 2) (oi := { dst := some 38, op := Op.binOp BinOp.eql 29 (Operand.tmp 37) (Operand.const (Value.int IntKind.i64 0)) 29, type := 4, pos := "law.go:94", after := #[{ on := 1, ground := Ground.data }], guard := none }) (v := .bool false) rfl (by kernel_rfl) (by kernel_rfl) (by kernel_rfl) (fun _ _ _ h => h) (Or.inl ⟨by rfl, ?_⟩) hHeld1 ?_
          · (intro w hSw; (try dsimp only at hSw); go_simp)
          try simp only [Act.put, List.setIfInBounds_toArray, List.set_cons_zero, List.set_cons_succ]
          refine wpAnyH_ready (rs := [4]) (by kernel_rfl) (by simp) ?_
          refine AllReadyH.cons (o := { dst := some 40, op := Op.call { callee := Callee.value (Operand.func 8), args := #[Operand.tmp 39], argTypes := #[24] }, type := 29, pos := "law.go:94", after := #[{ on := 3, ground := Ground.data }, { on := 1, ground := Ground.chain }], guard := none }) rfl (fun K hK => ?_) AllReadyH.nil
          go_simp
          refine (C1.out _ H3.out.j.g).mono ?_
          rintro e w4 ⟨rfl, hb⟩
          have H4 := hidOf (H3.out.grow hb)
          clear hb
          refine hK.out _ _ H4.out.c14 (fun hHeld2 => ?_)
          clear hK K
          try simp only [Act.put, List.setIfInBounds_toArray, List.set_cons_zero, List.set_cons_succ]
          refine wpAnyH_take (i := 5) (oi := { dst := some 41, op := Op.binOp BinOp.eql 29 (Operand.tmp 40) (Operand.const (Value.int IntKind.i64 0)) 29, type := 4, pos := "law.go:94", after := #[{ on := 4, ground := Ground.data }], guard := none }) (v := .bool false) rfl (by kernel_rfl) (by kernel_rfl) (by kernel_rfl) (fun _ _ _ h => h) (Or.inl ⟨by rfl, ?_⟩) hHeld2 ?_
          · (intro w hSw; (try dsimp only at hSw); go_simp)
          try simp only [Act.put, List.setIfInBounds_toArray, List.set_cons_zero, List.set_cons_succ]
          refine wpAnyH_take (i := 6) (oi := { dst := some 42, op := Op.move (Operand.tmp 41), type := 4, pos := "law.go:94", after := #[{ on := 5, ground := Ground.data }, { on := 4, ground := Ground.chain }], guard := none }) (v := .bool false) rfl (by kernel_rfl) (by kernel_rfl) (by kernel_rfl) (fun _ _ _ h => h) (Or.inl ⟨by rfl, ?_⟩) hHeld2 ?_
          · (intro w hSw; (try dsimp only at hSw); go_simp)
          try simp only [Act.put, List.setIfInBounds_toArray, List.set_cons_zero, List.set_cons_succ]
          refine wpAnyH_take (i := 7) (oi := { dst := some 43, op := Op.move (Operand.tmp 6), type := 4, pos := "law.go:94", after := #[{ on := 6, ground := Ground.guard }], guard := some (6, true) }) (v := undef) rfl (by kernel_rfl) (by kernel_rfl) (by kernel_rfl) (fun _ _ _ h => h) (Or.inr ⟨by rfl, rfl⟩) hHeld2 ?_
          try simp only [Act.put, List.setIfInBounds_toArray, List.set_cons_zero, List.set_cons_succ]
          refine wpAnyH_take (i := 8) (oi := { dst := some 44, op := Op.pick (Operand.tmp 42) (Operand.tmp 43) (Operand.const (Value.bool false)), type := 4, pos := "law.go:94", after := #[{ on := 6, ground := Ground.data }, { on := 7, ground := Ground.data }], guard := none }) (v := .bool false) rfl (by kernel_rfl) (by kernel_rfl) (by kernel_rfl) (fun _ _ _ h => h) (Or.inl ⟨by rfl, ?_⟩) hHeld2 ?_
          · (intro w hSw; (try dsimp only at hSw); go_simp)
          try simp only [Act.put, List.setIfInBounds_toArray, List.set_cons_zero, List.set_cons_succ]
          refine wpAnyH_take (i := 9) (oi := { dst := some 45, op := Op.binOp BinOp.eql 4 (Operand.tmp 38) (Operand.tmp 44) 4, type := 4, pos := "law.go:94", after := #[{ on := 2, ground := Ground.data }, { on := 8, ground := Ground.data }], guard := none }) (v := .bool true) rfl (by kernel_rfl) (by kernel_rfl) (by kernel_rfl) (fun _ _ _ h => h) (Or.inl ⟨by rfl, ?_⟩) hHeld2 ?_
          · (intro w hSw; (try dsimp only at hSw); go_simp)
          try simp only [Act.put, List.setIfInBounds_toArray, List.set_cons_zero, List.set_cons_succ]
          refine wpAnyH_take (i := 10) (oi := { dst := some 46, op := Op.move (Operand.tmp 45), type := 4, pos := "law.go:94", after := #[{ on := 9, ground := Ground.data }, { on := 6, ground := Ground.chain }], guard := none }) (v := .bool true) rfl (by kernel_rfl) (by kernel_rfl) (by kernel_rfl) (fun _ _ _ h => h) (Or.inl ⟨by rfl, ?_⟩) hHeld2 ?_
          · (intro w hSw; (try dsimp only at hSw); go_simp)
          try simp only [Act.put, List.setIfInBounds_toArray, List.set_cons_zero, List.set_cons_succ]
          refine wpAnyH_ready (rs := [11]) (by kernel_rfl) (by simp) ?_
          refine AllReadyH.cons (o := { dst := some 47, op := Op.call { callee := Callee.value (Operand.func 12), args := #[], argTypes := #[] }, type := 4, pos := "law.go:94", after := #[{ on := 10, ground := Ground.chain }, { on := 10, ground := Ground.guard }], guard := some (10, true) }) rfl (fun K hK => ?_) AllReadyH.nil
          go_simp
          refine (lives_any _).mono ?_
          rintro e w5 ⟨rfl, hb⟩
          have H5 := hidOf (H4.out.grow hb)
          clear hb
          refine hK.out _ _ H5.out.c14 (fun hHeld3 => ?_)
          clear hK K
          try simp only [Act.put, List.setIfInBounds_toArray, List.set_cons_zero, List.set_cons_succ]
          refine wpAnyH_take (i := 12) (oi := { dst := some 48, op := Op.pick (Operand.tmp 46) (Operand.tmp 47) (Operand.const (Value.bool false)), type := 4, pos := "law.go:94", after := #[{ on := 10, ground := Ground.data }, { on := 11, ground := Ground.data }], guard := none }) (v := .bool true) rfl (by kernel_rfl) (by kernel_rfl) (by kernel_rfl) (fun _ _ _ h => h) (Or.inl ⟨by rfl, ?_⟩) hHeld3 ?_
          · (intro w hSw; (try dsimp only at hSw); go_simp)
          try simp only [Act.put, List.setIfInBounds_toArray, List.set_cons_zero, List.set_cons_succ]
          refine wpAnyH_take (i := 13) (oi := { dst := some 2, op := Op.assign (Operand.tmp 48), type := 4, pos := "law.go:94", after := #[{ on := 12, ground := Ground.data }, { on := 11, ground := Ground.chain }, { on := 0, ground := Ground.phase }, { on := 1, ground := Ground.phase }, { on := 2, ground := Ground.phase }, { on := 3, ground := Ground.phase }, { on := 4, ground := Ground.phase }, { on := 5, ground := Ground.phase }, { on := 6, ground := Ground.phase }, { on := 7, ground := Ground.phase }, { on := 8, ground := Ground.phase }, { on := 9, ground := Ground.phase }, { on := 10, ground := Ground.phase }, { on := 11, ground := Ground.phase }, { on := 12, ground := Ground.phase }], guard := none }) (v := .bool true) rfl (by kernel_rfl) (by kernel_rfl) (by kernel_rfl) (fun _ _ _ h => h) (Or.inl ⟨by rfl, ?_⟩) hHeld3 ?_
          · (intro w hSw; (try dsimp only at hSw); go_simp)
          try simp only [Act.put, List.setIfInBounds_toArray, List.set_cons_zero, List.set_cons_succ]
          refine wpAnyH_done (by kernel_rfl) ?_ _
          go_wp2
          go_ret
          exact ⟨rfl, H5.out.j.bel⟩
        · have z1 := C1.out
          have z3 := C3.out
          simp only [errJ_false] at z1
          simp only [errJ_ft] at z3
          replace C1 := hidOf z1
          replace C3 := hidOf z3
          clear z1 z3 C2
          go_wp2
          refine wp_region_held_drew (S := fun w' => w'.cell? ⟨w.heap.size + 1 + 1 + 1, 0, none⟩ = some (.int .i64 id) ∧ w'.cell? ⟨w.heap.size + 1 + 1 + 1, 1, none⟩ = some (.int .i64 3) ∧ w'.cell? ⟨w.heap.size + 1 + 1 + 1, 2, none⟩ = some (.int .i64 pr) ∧ w'.cell? ⟨w.heap.size + 1 + 1 + 1, 3, none⟩ = some (.int .i64 pa) ∧ w'.cell? ⟨w.heap.size + 1 + 1 + 1, 4, none⟩ = some (.slice a L.length cap) ∧ w'.cell? ⟨w.heap.size + 1 + 1 + 1, 5, none⟩ = some (.int .i64 ve) ∧ w'.cell? ⟨w.heap.size + 1 + 1 + 1, 6, none⟩ = some (.bool st) ∧ w'.cell? ⟨w.heap.size + 1, 0, none⟩ = some (.int .i64 id) ∧ w'.cell? ⟨w.heap.size + 1, 1, none⟩ = some (.int .i64 1) ∧ w'.cell? ⟨w.heap.size + 1, 2, none⟩ = some (.int .i64 pr) ∧ w'.cell? ⟨w.heap.size + 1, 3, none⟩ = some (.int .i64 pa) ∧ w'.cell? ⟨w.heap.size + 1, 4, none⟩ = some (.slice a L.length cap) ∧ w'.cell? ⟨w.heap.size + 1, 5, none⟩ = some (.int .i64 ve) ∧ w'.cell? ⟨w.heap.size + 1, 6, none⟩ = some (.bool st)) (by kernel_rfl) H2.out.drew.c14 (fun hHeld => ?_)
          refine wpAnyH_take (i := 0) (oi := { dst := some 36, op := Op.load 24 (Operand.tmp 5), type := 24, pos := "law.go:94", after := #[], guard := none }) (v := .agg #[.int .i64 id, .int .i64 3, .int .i64 pr, .int .i64 pa, .slice a L.length cap, .int .i64 ve, .bool st]) rfl (by kernel_rfl) (by kernel_rfl) (by kernel_rfl) (fun _ _ _ h => h) (Or.inl ⟨by rfl, ?_⟩) hHeld ?_
          · (intro w hSw; (try dsimp only at hSw); go_simp)
          try simp only [Act.put, List.setIfInBounds_toArray, List.set_cons_zero, List.set_cons_succ]
          refine wpAnyH_take (i := 3) (oi := { dst := some 39, op := Op.load 24 (Operand.tmp 3), type := 24, pos := "law.go:94", after := #[], guard := none }) (v := .agg #[.int .i64 id, .int .i64 1, .int .i64 pr, .int .i64 pa, .slice a L.length cap, .int .i64 ve, .bool st]) rfl (by kernel_rfl) (by kernel_rfl) (by kernel_rfl) (fun _ _ _ h => h) (Or.inl ⟨by rfl, ?_⟩) hHeld ?_
          · (intro w hSw; (try dsimp only at hSw); go_simp)
          try simp only [Act.put, List.setIfInBounds_toArray, List.set_cons_zero, List.set_cons_succ]
          refine wpAnyH_ready (rs := [1]) (by kernel_rfl) (by simp) ?_
          refine AllReadyH.cons (o := { dst := some 37, op := Op.call { callee := Callee.value (Operand.func 8), args := #[Operand.tmp 36], argTypes := #[24] }, type := 29, pos := "law.go:94", after := #[{ on := 0, ground := Ground.data }], guard := none }) rfl (fun K hK => ?_) AllReadyH.nil
          go_simp
          refine (C3.out _ H2.out.drew.j.g).mono ?_
          rintro e w3 ⟨rfl, hb⟩
          have H3 := hidOf (H2.out.drew.grow hb)
          clear hb
          refine hK.out _ _ H3.out.c14 (fun hHeld1 => ?_)
          clear hK K
          try simp only [Act.put, List.setIfInBounds_toArray, List.set_cons_zero, List.set_cons_succ]
          refine wpAnyH_take (i := 2) (oi := { dst := some 38, op := Op.binOp BinOp.eql 29 (Operand.tmp 37) (Operand.const (Value.int IntKind.i64 0)) 29, type := 4, pos := "law.go:94", after := #[{ on := 1, ground := Ground.data }], guard := none }) (v := .bool false) rfl (by kernel_rfl) (by kernel_rfl) (by kernel_rfl) (fun _ _ _ h => h) (Or.inl ⟨by rfl, ?_⟩) hHeld1 ?_
          · (intro w hSw; (try dsimp only at hSw); go_simp)
          try simp only [Act.put, List.setIfInBounds_toArray, List.set_cons_zero, List.set_cons_succ]
          refine wpAnyH_ready (rs := [4]) (by kernel_rfl) (by simp) ?_
          refine AllReadyH.cons (o := { dst := some 40, op := Op.call { callee := Callee.value (Operand.func 8), args := #[Operand.tmp 39], argTypes := #[24] }, type := 29, pos := "law.go:94", after := #[{ on := 3, ground := Ground.data }, { on := 1, ground := Ground.chain }], guard := none }) rfl (fun K hK => ?_) AllReadyH.nil
          go_simp
          refine (C1.out _ H3.out.j.g).mono ?_
          rintro e w4 ⟨rfl, hb⟩
          have H4 := hidOf (H3.out.grow hb)
          clear hb
          refine hK.out _ _ H4.out.c14 (fun hHeld2 => ?_)
          clear hK K
          try simp only [Act.put, List.setIfInBounds_toArray, List.set_cons_zero, List.set_cons_succ]
          refine wpAnyH_take (i := 5) (oi := { dst := some 41, op := Op.binOp BinOp.eql 29 (Operand.tmp 40) (Operand.const (Value.int IntKind.i64 0)) 29, type := 4, pos := "law.go:94", after := #[{ on := 4, ground := Ground.data }], guard := none }) (v := .bool false) rfl (by kernel_rfl) (by kernel_rfl) (by kernel_rfl) (fun _ _ _ h => h) (Or.inl ⟨by rfl, ?_⟩) hHeld2 ?_
          · (intro w hSw; (try dsimp only at hSw); go_simp)
          try simp only [Act.put, List.setIfInBounds_toArray, List.set_cons_zero, List.set_cons_succ]
          refine wpAnyH_take (i := 6) (oi := { dst := some 42, op := Op.move (Operand.tmp 41), type := 4, pos := "law.go:94", after := #[{ on := 5, ground := Ground.data }, { on := 4, ground := Ground.chain }], guard := none }) (v := .bool false) rfl (by kernel_rfl) (by kernel_rfl) (by kernel_rfl) (fun _ _ _ h => h) (Or.inl ⟨by rfl, ?_⟩) hHeld2 ?_
          · (intro w hSw; (try dsimp only at hSw); go_simp)
          try simp only [Act.put, List.setIfInBounds_toArray, List.set_cons_zero, List.set_cons_succ]
          refine wpAnyH_take (i := 7) (oi := { dst := some 43, op := Op.move (Operand.tmp 6), type := 4, pos := "law.go:94", after := #[{ on := 6, ground := Ground.guard }], guard := some (6, true) }) (v := undef) rfl (by kernel_rfl) (by kernel_rfl) (by kernel_rfl) (fun _ _ _ h => h) (Or.inr ⟨by rfl, rfl⟩) hHeld2 ?_
          try simp only [Act.put, List.setIfInBounds_toArray, List.set_cons_zero, List.set_cons_succ]
          refine wpAnyH_take (i := 8) (oi := { dst := some 44, op := Op.pick (Operand.tmp 42) (Operand.tmp 43) (Operand.const (Value.bool false)), type := 4, pos := "law.go:94", after := #[{ on := 6, ground := Ground.data }, { on := 7, ground := Ground.data }], guard := none }) (v := .bool false) rfl (by kernel_rfl) (by kernel_rfl) (by kernel_rfl) (fun _ _ _ h => h) (Or.inl ⟨by rfl, ?_⟩) hHeld2 ?_
          · (intro w hSw; (try dsimp only at hSw); go_simp)
          try simp only [Act.put, List.setIfInBounds_toArray, List.set_cons_zero, List.set_cons_succ]
          refine wpAnyH_take (i := 9) (oi := { dst := some 45, op := Op.binOp BinOp.eql 4 (Operand.tmp 38) (Operand.tmp 44) 4, type := 4, pos := "law.go:94", after := #[{ on := 2, ground := Ground.data }, { on := 8, ground := Ground.data }], guard := none }) (v := .bool true) rfl (by kernel_rfl) (by kernel_rfl) (by kernel_rfl) (fun _ _ _ h => h) (Or.inl ⟨by rfl, ?_⟩) hHeld2 ?_
          · (intro w hSw; (try dsimp only at hSw); go_simp)
          try simp only [Act.put, List.setIfInBounds_toArray, List.set_cons_zero, List.set_cons_succ]
          refine wpAnyH_take (i := 10) (oi := { dst := some 46, op := Op.move (Operand.tmp 45), type := 4, pos := "law.go:94", after := #[{ on := 9, ground := Ground.data }, { on := 6, ground := Ground.chain }], guard := none }) (v := .bool true) rfl (by kernel_rfl) (by kernel_rfl) (by kernel_rfl) (fun _ _ _ h => h) (Or.inl ⟨by rfl, ?_⟩) hHeld2 ?_
          · (intro w hSw; (try dsimp only at hSw); go_simp)
          try simp only [Act.put, List.setIfInBounds_toArray, List.set_cons_zero, List.set_cons_succ]
          refine wpAnyH_ready (rs := [11]) (by kernel_rfl) (by simp) ?_
          refine AllReadyH.cons (o := { dst := some 47, op := Op.call { callee := Callee.value (Operand.func 12), args := #[], argTypes := #[] }, type := 4, pos := "law.go:94", after := #[{ on := 10, ground := Ground.chain }, { on := 10, ground := Ground.guard }], guard := some (10, true) }) rfl (fun K hK => ?_) AllReadyH.nil
          go_simp
          refine (lives_any _).mono ?_
          rintro e w5 ⟨rfl, hb⟩
          have H5 := hidOf (H4.out.grow hb)
          clear hb
          refine hK.out _ _ H5.out.c14 (fun hHeld3 => ?_)
          clear hK K
          try simp only [Act.put, List.setIfInBounds_toArray, List.set_cons_zero, List.set_cons_succ]
          refine wpAnyH_take (i := 12) (oi := { dst := some 48, op := Op.pick (Operand.tmp 46) (Operand.tmp 47) (Operand.const (Value.bool false)), type := 4, pos := "law.go:94", after := #[{ on := 10, ground := Ground.data }, { on := 11, ground := Ground.data }], guard := none }) (v := .bool true) rfl (by kernel_rfl) (by kernel_rfl) (by kernel_rfl) (fun _ _ _ h => h) (Or.inl ⟨by rfl, ?_⟩) hHeld3 ?_
          · (intro w hSw; (try dsimp only at hSw); go_simp)
          try simp only [Act.put, List.setIfInBounds_toArray, List.set_cons_zero, List.set_cons_succ]
          refine wpAnyH_take (i := 13) (oi := { dst := some 2, op := Op.assign (Operand.tmp 48), type := 4, pos := "law.go:94", after := #[{ on := 12, ground := Ground.data }, { on := 11, ground := Ground.chain }, { on := 0, ground := Ground.phase }, { on := 1, ground := Ground.phase }, { on := 2, ground := Ground.phase }, { on := 3, ground := Ground.phase }, { on := 4, ground := Ground.phase }, { on := 5, ground := Ground.phase }, { on := 6, ground := Ground.phase }, { on := 7, ground := Ground.phase }, { on := 8, ground := Ground.phase }, { on := 9, ground := Ground.phase }, { on := 10, ground := Ground.phase }, { on := 11, ground := Ground.phase }, { on := 12, ground := Ground.phase }], guard := none }) (v := .bool true) rfl (by kernel_rfl) (by kernel_rfl) (by kernel_rfl) (fun _ _ _ h => h) (Or.inl ⟨by rfl, ?_⟩) hHeld3 ?_
          · (intro w hSw; (try dsimp only at hSw); go_simp)
          try simp only [Act.put, List.setIfInBounds_toArray, List.set_cons_zero, List.set_cons_succ]
          refine wpAnyH_done (by kernel_rfl) ?_ _
          go_wp2
          go_ret
          exact ⟨rfl, H5.out.j.bel⟩
      · cases o
        · have z1 := C1.out
          have z3 := C3.out
          simp only [errJ_true] at z1
          simp only [errJ_tf] at z3
          replace C1 := hidOf z1
          replace C3 := hidOf z3
          clear z1 z3 C2
          go_wp2
          go_region_held3 (fun w' => w'.cell? ⟨w.heap.size + 1 + 1 + 1, 0, none⟩ = some (.int .i64 id) ∧ w'.cell? ⟨w.heap.size + 1 + 1 + 1, 1, none⟩ = some (.int .i64 3) ∧ w'.cell? ⟨w.heap.size + 1 + 1 + 1, 2, none⟩ = some (.int .i64 pr) ∧ w'.cell? ⟨w.heap.size + 1 + 1 + 1, 3, none⟩ = some (.int .i64 pa) ∧ w'.cell? ⟨w.heap.size + 1 + 1 + 1, 4, none⟩ = some (.slice a L.length cap) ∧ w'.cell? ⟨w.heap.size + 1 + 1 + 1, 5, none⟩ = some (.int .i64 ve) ∧ w'.cell? ⟨w.heap.size + 1 + 1 + 1, 6, none⟩ = some (.bool st) ∧ w'.cell? ⟨w.heap.size + 1, 0, none⟩ = some (.int .i64 id) ∧ w'.cell? ⟨w.heap.size + 1, 1, none⟩ = some (.int .i64 1) ∧ w'.cell? ⟨w.heap.size + 1, 2, none⟩ = some (.int .i64 pr) ∧ w'.cell? ⟨w.heap.size + 1, 3, none⟩ = some (.int .i64 pa) ∧ w'.cell? ⟨w.heap.size + 1, 4, none⟩ = some (.slice a L.length cap) ∧ w'.cell? ⟨w.heap.size + 1, 5, none⟩ = some (.int .i64 ve) ∧ w'.cell? ⟨w.heap.size + 1, 6, none⟩ = some (.bool st)) (first | exact H2.out.drew.c14 | exact H3.out.c14 | exact H4.out.c14 | exact H5.out.c14 | go_keep) (first
            | (go_at_call 8; have hh := T2; clear T2; refine (C3.out _ H2.out.drew.j.g).mono ?_; rintro e w3 ⟨rfl, hb⟩; have H3 := hidOf (H2.out.drew.grow hb); clear hb)
            | (go_at_call 8; refine (C1.out _ H3.out.j.g).mono ?_; rintro e w4 ⟨rfl, hb⟩; have H4 := hidOf (H3.out.grow hb); clear hb)
            | (go_at_call 12; refine (lives_any _).mono ?_; rintro e w5 ⟨rfl, hb⟩; have H5 := hidOf (H4.out.grow hb); clear hb))
          go_wp2
          go_ret
          exact ⟨rfl, H5.out.j.bel⟩
        · have z1 := C1.out
          have z3 := C3.out
          simp only [errJ_true] at z1
          simp only [errJ_tt] at z3
          replace C1 := hidOf z1
          replace C3 := hidOf z3
          clear z1 z3 C2
          go_wp2
          go_region_held3 (fun w' => w'.cell? ⟨w.heap.size + 1 + 1 + 1, 0, none⟩ = some (.int .i64 id) ∧ w'.cell? ⟨w.heap.size + 1 + 1 + 1, 1, none⟩ = some (.int .i64 3) ∧ w'.cell? ⟨w.heap.size + 1 + 1 + 1, 2, none⟩ = some (.int .i64 pr) ∧ w'.cell? ⟨w.heap.size + 1 + 1 + 1, 3, none⟩ = some (.int .i64 pa) ∧ w'.cell? ⟨w.heap.size + 1 + 1 + 1, 4, none⟩ = some (.slice a L.length cap) ∧ w'.cell? ⟨w.heap.size + 1 + 1 + 1, 5, none⟩ = some (.int .i64 ve) ∧ w'.cell? ⟨w.heap.size + 1 + 1 + 1, 6, none⟩ = some (.bool st) ∧ w'.cell? ⟨w.heap.size + 1, 0, none⟩ = some (.int .i64 id) ∧ w'.cell? ⟨w.heap.size + 1, 1, none⟩ = some (.int .i64 1) ∧ w'.cell? ⟨w.heap.size + 1, 2, none⟩ = some (.int .i64 pr) ∧ w'.cell? ⟨w.heap.size + 1, 3, none⟩ = some (.int .i64 pa) ∧ w'.cell? ⟨w.heap.size + 1, 4, none⟩ = some (.slice a L.length cap) ∧ w'.cell? ⟨w.heap.size + 1, 5, none⟩ = some (.int .i64 ve) ∧ w'.cell? ⟨w.heap.size + 1, 6, none⟩ = some (.bool st)) (first | exact H2.out.drew.c14 | exact H3.out.c14 | exact H4.out.c14 | exact H5.out.c14 | go_keep) (first
            | (go_at_call 8; have hh := T2; clear T2; refine (C3.out _ H2.out.drew.j.g).mono ?_; rintro e w3 ⟨rfl, hb⟩; have H3 := hidOf (H2.out.drew.grow hb); clear hb)
            | (go_at_call 8; refine (C1.out _ H3.out.j.g).mono ?_; rintro e w4 ⟨rfl, hb⟩; have H4 := hidOf (H3.out.grow hb); clear hb)
            | (go_at_call 12; refine (lives_any _).mono ?_; rintro e w5 ⟨rfl, hb⟩; have H5 := hidOf (H4.out.grow hb); clear hb))
          go_wp2
          go_ret
          exact ⟨rfl, H5.out.j.bel⟩
end Go.Proofs.Ytnkdchajgpkmpaa
