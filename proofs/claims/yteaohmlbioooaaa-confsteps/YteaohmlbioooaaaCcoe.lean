/- Majority, Agreed, Single, with, without, of the code. -/
import Derived.Test.YteaohmlbioooaaaCcod
import Derived.Deep.RegionHeld3
namespace Go.Proofs.Yteaohmlbioooaaa
open Go.RowKit

theorem count_take {V : List Int} (p : Int → Bool) {k : Nat} (h : k < V.length) : (V.take (k + 1)).countP p = (V.take k).countP p + if p (nth V k) then 1 else 0 := by
  rw [take_nth h, List.countP_append, List.countP_singleton]
theorem count_le {V : List Int} (p : Int → Bool) (k : Nat) : (V.take k).countP p ≤ k := by
  have := List.countP_le_length (p := p) (l := V.take k)
  have h2 : (V.take k).length ≤ k := by simp; omega
  omega
theorem half (n q : Nat) : decide ((n : Int) / 2 < (q : Int)) = decide (n < 2 * q) := by
  rw [Bool.eq_iff_iff, decide_eq_true_eq, decide_eq_true_eq]; omega
theorem one_le (q : Nat) : decide ((q : Int) ≤ 1) = decide (q ≤ 1) := by
  rw [Bool.eq_iff_iff, decide_eq_true_eq, decide_eq_true_eq]; omega
set_option maxHeartbeats 1000000 in
theorem majority_any (w : World) (av al : Option Addr) (V L : List Int) (cv cl : Nat) (ay : Option Addr) (Y : List Int) (cy : Nat) (h : Cf w av al V L) (hy : Ints w ay Y) : Calls Try.prog 19 #[.agg #[.slice av V.length cv, .slice al L.length cl], .slice ay Y.length cy] w fun e w' => e = .returned (.bool (majB V Y)) ∧ Below w.heap.size w w' := by
  have H0 := hidOf (Cs.begin cv cl h)
  have hS := fun o : Obj => sorted_any (w.alloc o) ay Y cy (hy.grow (below1 w o))
  have HS := hidOf hS
  have hlen := h.v.len
  clear hS h hy
  go_enter Try.func19, Try.ntmps19
  go_wp2_with (go_at_call 32; refine (HS.out _).mono ?_; rintro e w1 ⟨v, rfl, hr, hb⟩; obtain ⟨sa, sc, rfl, hi, _, _, _⟩ := hr.slice; have HI := hidOf hi; have H1 := hidOf (H0.out.grow hb); clear hr hb hi; have c0 := H1.out.bx.c0; have lt0 := H1.out.bx.lt)
  clear c0 lt0
  go_loopw [6, 15] (fun c i wr => ∃ k : Nat, c = .int .i64 (((V.take k).countP (fun v => (srt Y).contains v) : Nat) : Int) ∧ i = .int .i64 (k : Int) ∧ k ≤ V.length ∧ Hid (Cs w wr w.heap.size av al V L cv cl) ∧ Hid (Ints wr sa (srt Y))) (fun _ i _ => V.length - (intOf i).toNat)
  case atStart => exact ⟨0, by simp, rfl, Nat.zero_le _, H1, HI⟩
  case round =>
    obtain ⟨k, rfl, rfl, hk, HC, HJ⟩ := hrel
    have c0 := HC.out.bx.c0
    have lt0 := HC.out.bx.lt
    by_cases hlt : k < V.length
    · have hltz : (k : Int) < (V.length : Int) := by omega
      obtain ⟨b, off, rfl, hbl, hc⟩ := HC.out.cf.v.at hlt
      have c2 := hc k hlt
      have hct := count_take (fun v => (srt Y).contains v) hlt
      have hcl := count_le (V := V) (fun v => (srt Y).contains v) k
      generalize hq : (V.take k).countP (fun v => (srt Y).contains v) = q at hct hcl ⊢
      generalize nth V k = x at c2 hct
      have HT := hidOf hct
      have HSE := hidOf (search_any wr sa (srt Y) sc x HJ.out (srt_sorted Y))
      clear hc hct hq
      cases e : (srt Y).contains x with
      | false =>
        rw [e] at HSE
        have HT2 : Hid ((V.take (k + 1)).countP (fun v => (srt Y).contains v) = q) := hidOf (by rw [HT.out, e]; rfl)
        clear HT e
        go_wp2_with (go_at_call 41; refine HSE.out.mono ?_; rintro e w2 ⟨rfl, hb⟩; have H2 := hidOf (HC.out.grow hb); have HJ2 := hidOf (HJ.out.grow hb); clear hb)
        go_roundw
        case rel => exact ⟨k + 1, by rw [HT2.out], by go_num, by omega, H2, HJ2⟩
        case measure => simp [intOf]; omega
      | true =>
        rw [e] at HSE
        have HT2 : Hid ((V.take (k + 1)).countP (fun v => (srt Y).contains v) = q + 1) := hidOf (by rw [HT.out, e]; rfl)
        clear HT e
        go_wp2_with (go_at_call 41; refine HSE.out.mono ?_; rintro e w2 ⟨rfl, hb⟩; have H2 := hidOf (HC.out.grow hb); have HJ2 := hidOf (HJ.out.grow hb); clear hb)
        go_roundw
        case rel => exact ⟨k + 1, by rw [HT2.out]; go_num, by go_num, by omega, H2, HJ2⟩
        case measure => simp [intOf]; omega
    · obtain rfl : k = V.length := by omega
      have hltz : ¬ (V.length : Int) < (V.length : Int) := by omega
      have e : majB V Y = decide (V.length < 2 * (V.take V.length).countP (fun v => (srt Y).contains v)) := by
        unfold majB
        rw [List.take_length]
        simp only [srt_contains]
      generalize (V.take V.length).countP (fun v => (srt Y).contains v) = q at e ⊢
      have HE := hidOf (e.trans (half V.length q).symm)
      clear e
      go_wp2
      go_ret
      exact ⟨by rw [HE.out]; rfl, HC.out.bel⟩

theorem dif_le_k (V V' : List Int) (k : Nat) : dif V V' k ≤ k := by
  induction k with
  | zero => exact Nat.le_refl _
  | succ k ih =>
    have : dif V V' (k + 1) = dif V V' k + if V.contains ((k : Int) + 1) = V'.contains ((k : Int) + 1) then 0 else 1 := rfl
    rw [this]
    split <;> omega
set_option maxHeartbeats 1000000 in
theorem single_any (w : World) (av al : Option Addr) (V L : List Int) (cv cl : Nat) (bv bl : Option Addr) (V' L' : List Int) (dv dl : Nat) (h : Cf w av al V L) (h' : Cf w bv bl V' L') : Calls Try.prog 23 #[.agg #[.slice av V.length cv, .slice al L.length cl], .agg #[.slice bv V'.length dv, .slice bl L'.length dl]] w fun e w' => e = .returned (.bool (sglB V L V' L')) ∧ Below w.heap.size w w' := by
  have H0 := hidOf ((Cs.begin cv cl h).grow (below1 _ (.cells #[.slice bv V'.length dv, .slice bl L'.length dl] 24)))
  have hK := Cs.begin (w := w.alloc (.cells #[.slice av V.length cv, .slice al L.length cl] 24)) dv dl (h'.grow (below1 w _))
  rw [World.size_alloc] at hK
  have K0 := hidOf hK
  clear hK h h'
  cases e1 : mayB V L with
  | false =>
    have e : sglB V L V' L' = false := by rw [sglB, e1]; rfl
    rw [e]
    have hm := may_any _ av al V L cv cl H0.out.cf
    rw [e1] at hm
    have HM := hidOf hm
    clear hm e e1
    go_enter Try.func23, Try.ntmps23
    go_wp2_with (go_at_call 12; refine HM.out.mono ?_; rintro e w1 ⟨rfl, hb⟩)
    go_ret
    exact ⟨rfl, below_then H0.out.bel hb⟩
  | true =>
    have hm := may_any _ av al V L cv cl H0.out.cf
    rw [e1] at hm
    have HM := hidOf hm
    clear hm
    cases e2 : mayB V' L' with
    | false =>
      have e : sglB V L V' L' = false := by rw [sglB, e1, e2]; rfl
      rw [e]
      have HE2 := hidOf e2
      clear e e1 e2
      go_enter Try.func23, Try.ntmps23
      go_wp2_with (first
        | (go_at_call 12; refine HM.out.mono ?_; rintro e w1 ⟨rfl, hb⟩; have H1 := hidOf (H0.out.grow hb); have K1 := hidOf (K0.out.grow hb); clear hb HM; have c0 : w1.cell? ⟨w.heap.size + 1, 0, none⟩ = _ := K1.out.bx.c0; have c1 : w1.cell? ⟨w.heap.size + 1, 1, none⟩ = _ := K1.out.bx.c1; have lt0 : w.heap.size + 1 < w1.heap.size := K1.out.bx.lt; have hm2 := may_any w1 bv bl V' L' dv dl K1.out.cf; rw [HE2.out] at hm2; have HM2 := hidOf hm2; clear hm2)
        | (go_at_call 12; refine HM2.out.mono ?_; rintro e w2 ⟨rfl, hb⟩))
      go_ret
      exact ⟨rfl, below_then H1.out.bel hb⟩
    | true =>
      have EE : Hid (sglB V L V' L' = decide (dif V V' 5 ≤ 1)) := hidOf (by rw [sglB, e1, e2]; rfl)
      have HE2 := hidOf e2
      clear e1 e2
      go_enter Try.func23, Try.ntmps23
      go_wp2_with (first
        | (go_at_call 12; refine HM.out.mono ?_; rintro e w1 ⟨rfl, hb⟩; have H1 := hidOf (H0.out.grow hb); have K1 := hidOf (K0.out.grow hb); clear hb HM; have c0 : w1.cell? ⟨w.heap.size + 1, 0, none⟩ = _ := K1.out.bx.c0; have c1 : w1.cell? ⟨w.heap.size + 1, 1, none⟩ = _ := K1.out.bx.c1; have lt0 : w.heap.size + 1 < w1.heap.size := K1.out.bx.lt; have hm2 := may_any w1 bv bl V' L' dv dl K1.out.cf; rw [HE2.out] at hm2; have HM2 := hidOf hm2; clear hm2)
        | (go_at_call 12; refine HM2.out.mono ?_; rintro e w2 ⟨rfl, hb⟩; have H2 := hidOf (H1.out.grow hb); have K2 := hidOf (K1.out.grow hb); clear hb HM2 c0 c1 lt0))
      go_loopw [5, 15] (fun c i wr => ∃ k : Nat, c = .int .i64 ((dif V V' k : Nat) : Int) ∧ i = .int .i64 (k : Int) ∧ k ≤ 5 ∧ Hid (Cs w wr w.heap.size av al V L cv cl) ∧ Hid (Cs (w.alloc (.cells #[.slice av V.length cv, .slice al L.length cl] 24)) wr (w.heap.size + 1) bv bl V' L' dv dl)) (fun _ i _ => 5 - (intOf i).toNat)
      case atStart => exact ⟨0, rfl, rfl, Nat.zero_le _, H2, K2⟩
      case round =>
        obtain ⟨k, rfl, rfl, hk, HC, KC⟩ := hrel
        by_cases hlt : k < 5
        · have hltz : (k : Int) < 5 := by omega
          have hdk : dif V V' k ≤ k := dif_le_k V V' k
          have ED : Hid (dif V V' (k + 1) = dif V V' k + if V.contains ((k : Int) + 1) = V'.contains ((k : Int) + 1) then 0 else 1) := hidOf rfl
          have hv1 := voter_any wr.drew av al V L cv cl ((k : Int) + 1) HC.out.drew.cf.v
          generalize dif V V' k = q at hdk ED ⊢
          cases e3 : V.contains ((k : Int) + 1) with
          | false =>
            rw [e3] at hv1
            have HV := hidOf hv1
            clear hv1
            cases e4 : V'.contains ((k : Int) + 1) with
            | false =>
              have HE4 := hidOf e4
              rw [e3, e4] at ED
              clear e3 e4
              go_wp2_with (fail)
              have c0 := HC.out.bx.c0
              have c1 := HC.out.bx.c1
              have d0 : wr.cell? ⟨w.heap.size + 1, 0, none⟩ = _ := KC.out.bx.c0
              have d1 : wr.cell? ⟨w.heap.size + 1, 1, none⟩ = _ := KC.out.bx.c1
              have lt0 := HC.out.bx.lt
              have lt1 : w.heap.size + 1 < wr.heap.size := KC.out.bx.lt
              refine wp_region_held_drew (S := fun wz => (wz.cell? ⟨w.heap.size, 0, none⟩ = some (.slice av V.length cv) ∧ wz.cell? ⟨w.heap.size, 1, none⟩ = some (.slice al L.length cl)) ∧ (wz.cell? ⟨w.heap.size + 1, 0, none⟩ = some (.slice bv V'.length dv) ∧ wz.cell? ⟨w.heap.size + 1, 1, none⟩ = some (.slice bl L'.length dl))) (by kernel_rfl) ⟨⟨c0, c1⟩, d0, d1⟩ (fun hHeld => ?_)
              refine wpAnyH_take (i := 0) (oi := { dst := some 18, op := Op.load 24 (Operand.tmp 2), type := 24, pos := "conf.go:69", after := #[], guard := none }) (v := .agg #[.slice av V.length cv, .slice al L.length cl]) rfl (by kernel_rfl) (by kernel_rfl) (by kernel_rfl) (fun _ _ _ h => h) (Or.inl ⟨by rfl, ?_⟩) hHeld ?_
              · (intro w hSw; (try dsimp only at hSw); go_simp)
              try simp only [Act.put, List.setIfInBounds_toArray, List.set_cons_zero, List.set_cons_succ]
              refine wpAnyH_take (i := 1) (oi := { dst := some 19, op := Op.move (Operand.tmp 6), type := 3, pos := "conf.go:69", after := #[], guard := none }) (v := .int .i64 (k : Int)) rfl (by kernel_rfl) (by kernel_rfl) (by kernel_rfl) (fun _ _ _ h => h) (Or.inl ⟨by rfl, ?_⟩) hHeld ?_
              · (intro w hSw; (try dsimp only at hSw); go_simp)
              try simp only [Act.put, List.setIfInBounds_toArray, List.set_cons_zero, List.set_cons_succ]
              refine wpAnyH_take (i := 2) (oi := { dst := some 20, op := Op.binOp BinOp.add 3 (Operand.tmp 19) (Operand.const (Value.int IntKind.i64 1)) 3, type := 3, pos := "conf.go:69", after := #[{ on := 1, ground := Ground.data }], guard := none }) (v := .int .i64 ((k : Int) + 1)) rfl (by kernel_rfl) (by kernel_rfl) (by kernel_rfl) (fun _ _ _ h => h) (Or.inl ⟨by rfl, ?_⟩) hHeld ?_
              · (intro w hSw; (try dsimp only at hSw); go_simp; exact wrap_small _ (by omega) (by omega))
              try simp only [Act.put, List.setIfInBounds_toArray, List.set_cons_zero, List.set_cons_succ]
              refine wpAnyH_take (i := 4) (oi := { dst := some 22, op := Op.load 24 (Operand.tmp 3), type := 24, pos := "conf.go:69", after := #[], guard := none }) (v := .agg #[.slice bv V'.length dv, .slice bl L'.length dl]) rfl (by kernel_rfl) (by kernel_rfl) (by kernel_rfl) (fun _ _ _ h => h) (Or.inl ⟨by rfl, ?_⟩) hHeld ?_
              · (intro w hSw; (try dsimp only at hSw); go_simp)
              try simp only [Act.put, List.setIfInBounds_toArray, List.set_cons_zero, List.set_cons_succ]
              refine wpAnyH_take (i := 5) (oi := { dst := some 23, op := Op.move (Operand.tmp 6), type := 3, pos := "conf.go:69", after := #[], guard := none }) (v := .int .i64 (k : Int)) rfl (by kernel_rfl) (by kernel_rfl) (by kernel_rfl) (fun _ _ _ h => h) (Or.inl ⟨by rfl, ?_⟩) hHeld ?_
              · (intro w hSw; (try dsimp only at hSw); go_simp)
              try simp only [Act.put, List.setIfInBounds_toArray, List.set_cons_zero, List.set_cons_succ]
              refine wpAnyH_take (i := 6) (oi := { dst := some 24, op := Op.binOp BinOp.add 3 (Operand.tmp 23) (Operand.const (Value.int IntKind.i64 1)) 3, type := 3, pos := "conf.go:69", after := #[{ on := 5, ground := Ground.data }], guard := none }) (v := .int .i64 ((k : Int) + 1)) rfl (by kernel_rfl) (by kernel_rfl) (by kernel_rfl) (fun _ _ _ h => h) (Or.inl ⟨by rfl, ?_⟩) hHeld ?_
              · (intro w hSw; (try dsimp only at hSw); go_simp; exact wrap_small _ (by omega) (by omega))
              try simp only [Act.put, List.setIfInBounds_toArray, List.set_cons_zero, List.set_cons_succ]
              refine wpAnyH_ready (rs := [3]) (by kernel_rfl) (by simp) ?_
              refine AllReadyH.cons (o := { dst := some 21, op := Op.call { callee := Callee.value (Operand.func 16), args := #[Operand.tmp 18, Operand.tmp 20], argTypes := #[24, 3] }, type := 4, pos := "conf.go:69", after := #[{ on := 0, ground := Ground.data }, { on := 2, ground := Ground.data }], guard := none }) rfl (fun K hK => ?_) AllReadyH.nil
              go_simp
              refine HV.out.mono ?_
              rintro e w3 ⟨rfl, hb⟩
              have H3 := hidOf (HC.out.drew.grow hb)
              have K3 := hidOf (KC.out.drew.grow hb)
              clear hb
              refine hK.out _ _ ⟨⟨H3.out.bx.c0, H3.out.bx.c1⟩, K3.out.bx.c0, K3.out.bx.c1⟩ (fun hHeld1 => ?_)
              clear hK K
              try simp only [Act.put, List.setIfInBounds_toArray, List.set_cons_zero, List.set_cons_succ]
              refine wpAnyH_ready (rs := [7]) (by kernel_rfl) (by simp) ?_
              refine AllReadyH.cons (o := { dst := some 25, op := Op.call { callee := Callee.value (Operand.func 16), args := #[Operand.tmp 22, Operand.tmp 24], argTypes := #[24, 3] }, type := 4, pos := "conf.go:69", after := #[{ on := 4, ground := Ground.data }, { on := 6, ground := Ground.data }, { on := 3, ground := Ground.chain }], guard := none }) rfl (fun K hK => ?_) AllReadyH.nil
              go_simp
              have hw2 := voter_any w3 bv bl V' L' dv dl ((k : Int) + 1) K3.out.cf.v
              rw [HE4.out] at hw2
              refine hw2.mono ?_
              clear hw2
              rintro e w4 ⟨rfl, hb⟩
              have H4 := hidOf (H3.out.grow hb)
              have K4 := hidOf (K3.out.grow hb)
              clear hb
              refine hK.out _ _ ⟨⟨H4.out.bx.c0, H4.out.bx.c1⟩, K4.out.bx.c0, K4.out.bx.c1⟩ (fun hHeld2 => ?_)
              clear hK K
              try simp only [Act.put, List.setIfInBounds_toArray, List.set_cons_zero, List.set_cons_succ]
              refine wpAnyH_take (i := 8) (oi := { dst := some 26, op := Op.binOp BinOp.neq 4 (Operand.tmp 21) (Operand.tmp 25) 4, type := 4, pos := "conf.go:69", after := #[{ on := 3, ground := Ground.data }, { on := 7, ground := Ground.data }], guard := none }) (v := .bool false) rfl (by kernel_rfl) (by kernel_rfl) (by kernel_rfl) (fun _ _ _ h => h) (Or.inl ⟨by rfl, ?_⟩) hHeld2 ?_
              · (intro w hSw; (try dsimp only at hSw); go_simp)
              try simp only [Act.put, List.setIfInBounds_toArray, List.set_cons_zero, List.set_cons_succ]
              refine wpAnyH_done (by kernel_rfl) ?_ _
              go_wp2
              go_roundw
              case rel => exact ⟨k + 1, by rw [ED.out]; go_num, by go_num, by omega, H4, K4⟩
              case measure => simp [intOf]; omega
            | true =>
              have HE4 := hidOf e4
              rw [e3, e4] at ED
              clear e3 e4
              go_wp2_with (fail)
              have c0 := HC.out.bx.c0
              have c1 := HC.out.bx.c1
              have d0 : wr.cell? ⟨w.heap.size + 1, 0, none⟩ = _ := KC.out.bx.c0
              have d1 : wr.cell? ⟨w.heap.size + 1, 1, none⟩ = _ := KC.out.bx.c1
              have lt0 := HC.out.bx.lt
              have lt1 : w.heap.size + 1 < wr.heap.size := KC.out.bx.lt
              refine wp_region_held_drew (S := fun wz => (wz.cell? ⟨w.heap.size, 0, none⟩ = some (.slice av V.length cv) ∧ wz.cell? ⟨w.heap.size, 1, none⟩ = some (.slice al L.length cl)) ∧ (wz.cell? ⟨w.heap.size + 1, 0, none⟩ = some (.slice bv V'.length dv) ∧ wz.cell? ⟨w.heap.size + 1, 1, none⟩ = some (.slice bl L'.length dl))) (by kernel_rfl) ⟨⟨c0, c1⟩, d0, d1⟩ (fun hHeld => ?_)
              refine wpAnyH_take (i := 0) (oi := { dst := some 18, op := Op.load 24 (Operand.tmp 2), type := 24, pos := "conf.go:69", after := #[], guard := none }) (v := .agg #[.slice av V.length cv, .slice al L.length cl]) rfl (by kernel_rfl) (by kernel_rfl) (by kernel_rfl) (fun _ _ _ h => h) (Or.inl ⟨by rfl, ?_⟩) hHeld ?_
              · (intro w hSw; (try dsimp only at hSw); go_simp)
              try simp only [Act.put, List.setIfInBounds_toArray, List.set_cons_zero, List.set_cons_succ]
              refine wpAnyH_take (i := 1) (oi := { dst := some 19, op := Op.move (Operand.tmp 6), type := 3, pos := "conf.go:69", after := #[], guard := none }) (v := .int .i64 (k : Int)) rfl (by kernel_rfl) (by kernel_rfl) (by kernel_rfl) (fun _ _ _ h => h) (Or.inl ⟨by rfl, ?_⟩) hHeld ?_
              · (intro w hSw; (try dsimp only at hSw); go_simp)
              try simp only [Act.put, List.setIfInBounds_toArray, List.set_cons_zero, List.set_cons_succ]
              refine wpAnyH_take (i := 2) (oi := { dst := some 20, op := Op.binOp BinOp.add 3 (Operand.tmp 19) (Operand.const (Value.int IntKind.i64 1)) 3, type := 3, pos := "conf.go:69", after := #[{ on := 1, ground := Ground.data }], guard := none }) (v := .int .i64 ((k : Int) + 1)) rfl (by kernel_rfl) (by kernel_rfl) (by kernel_rfl) (fun _ _ _ h => h) (Or.inl ⟨by rfl, ?_⟩) hHeld ?_
              · (intro w hSw; (try dsimp only at hSw); go_simp; exact wrap_small _ (by omega) (by omega))
              try simp only [Act.put, List.setIfInBounds_toArray, List.set_cons_zero, List.set_cons_succ]
              refine wpAnyH_take (i := 4) (oi := { dst := some 22, op := Op.load 24 (Operand.tmp 3), type := 24, pos := "conf.go:69", after := #[], guard := none }) (v := .agg #[.slice bv V'.length dv, .slice bl L'.length dl]) rfl (by kernel_rfl) (by kernel_rfl) (by kernel_rfl) (fun _ _ _ h => h) (Or.inl ⟨by rfl, ?_⟩) hHeld ?_
              · (intro w hSw; (try dsimp only at hSw); go_simp)
              try simp only [Act.put, List.setIfInBounds_toArray, List.set_cons_zero, List.set_cons_succ]
              refine wpAnyH_take (i := 5) (oi := { dst := some 23, op := Op.move (Operand.tmp 6), type := 3, pos := "conf.go:69", after := #[], guard := none }) (v := .int .i64 (k : Int)) rfl (by kernel_rfl) (by kernel_rfl) (by kernel_rfl) (fun _ _ _ h => h) (Or.inl ⟨by rfl, ?_⟩) hHeld ?_
              · (intro w hSw; (try dsimp only at hSw); go_simp)
              try simp only [Act.put, List.setIfInBounds_toArray, List.set_cons_zero, List.set_cons_succ]
              refine wpAnyH_take (i := 6) (oi := { dst := some 24, op := Op.binOp BinOp.add 3 (Operand.tmp 23) (Operand.const (Value.int IntKind.i64 1)) 3, type := 3, pos := "conf.go:69", after := #[{ on := 5, ground := Ground.data }], guard := none }) (v := .int .i64 ((k : Int) + 1)) rfl (by kernel_rfl) (by kernel_rfl) (by kernel_rfl) (fun _ _ _ h => h) (Or.inl ⟨by rfl, ?_⟩) hHeld ?_
              · (intro w hSw; (try dsimp only at hSw); go_simp; exact wrap_small _ (by omega) (by omega))
              try simp only [Act.put, List.setIfInBounds_toArray, List.set_cons_zero, List.set_cons_succ]
              refine wpAnyH_ready (rs := [3]) (by kernel_rfl) (by simp) ?_
              refine AllReadyH.cons (o := { dst := some 21, op := Op.call { callee := Callee.value (Operand.func 16), args := #[Operand.tmp 18, Operand.tmp 20], argTypes := #[24, 3] }, type := 4, pos := "conf.go:69", after := #[{ on := 0, ground := Ground.data }, { on := 2, ground := Ground.data }], guard := none }) rfl (fun K hK => ?_) AllReadyH.nil
              go_simp
              refine HV.out.mono ?_
              rintro e w3 ⟨rfl, hb⟩
              have H3 := hidOf (HC.out.drew.grow hb)
              have K3 := hidOf (KC.out.drew.grow hb)
              clear hb
              refine hK.out _ _ ⟨⟨H3.out.bx.c0, H3.out.bx.c1⟩, K3.out.bx.c0, K3.out.bx.c1⟩ (fun hHeld1 => ?_)
              clear hK K
              try simp only [Act.put, List.setIfInBounds_toArray, List.set_cons_zero, List.set_cons_succ]
              refine wpAnyH_ready (rs := [7]) (by kernel_rfl) (by simp) ?_
              refine AllReadyH.cons (o := { dst := some 25, op := Op.call { callee := Callee.value (Operand.func 16), args := #[Operand.tmp 22, Operand.tmp 24], argTypes := #[24, 3] }, type := 4, pos := "conf.go:69", after := #[{ on := 4, ground := Ground.data }, { on := 6, ground := Ground.data }, { on := 3, ground := Ground.chain }], guard := none }) rfl (fun K hK => ?_) AllReadyH.nil
              go_simp
              have hw2 := voter_any w3 bv bl V' L' dv dl ((k : Int) + 1) K3.out.cf.v
              rw [HE4.out] at hw2
              refine hw2.mono ?_
              clear hw2
              rintro e w4 ⟨rfl, hb⟩
              have H4 := hidOf (H3.out.grow hb)
              have K4 := hidOf (K3.out.grow hb)
              clear hb
              refine hK.out _ _ ⟨⟨H4.out.bx.c0, H4.out.bx.c1⟩, K4.out.bx.c0, K4.out.bx.c1⟩ (fun hHeld2 => ?_)
              clear hK K
              try simp only [Act.put, List.setIfInBounds_toArray, List.set_cons_zero, List.set_cons_succ]
              refine wpAnyH_take (i := 8) (oi := { dst := some 26, op := Op.binOp BinOp.neq 4 (Operand.tmp 21) (Operand.tmp 25) 4, type := 4, pos := "conf.go:69", after := #[{ on := 3, ground := Ground.data }, { on := 7, ground := Ground.data }], guard := none }) (v := .bool true) rfl (by kernel_rfl) (by kernel_rfl) (by kernel_rfl) (fun _ _ _ h => h) (Or.inl ⟨by rfl, ?_⟩) hHeld2 ?_
              · (intro w hSw; (try dsimp only at hSw); go_simp)
              try simp only [Act.put, List.setIfInBounds_toArray, List.set_cons_zero, List.set_cons_succ]
              refine wpAnyH_done (by kernel_rfl) ?_ _
              go_wp2
              go_roundw
              case rel => exact ⟨k + 1, by rw [ED.out]; go_num, by go_num, by omega, H4, K4⟩
              case measure => simp [intOf]; omega
          | true =>
            rw [e3] at hv1
            have HV := hidOf hv1
            clear hv1
            cases e4 : V'.contains ((k : Int) + 1) with
            | false =>
              have HE4 := hidOf e4
              rw [e3, e4] at ED
              clear e3 e4
              go_wp2_with (fail)
              have c0 := HC.out.bx.c0
              have c1 := HC.out.bx.c1
              have d0 : wr.cell? ⟨w.heap.size + 1, 0, none⟩ = _ := KC.out.bx.c0
              have d1 : wr.cell? ⟨w.heap.size + 1, 1, none⟩ = _ := KC.out.bx.c1
              have lt0 := HC.out.bx.lt
              have lt1 : w.heap.size + 1 < wr.heap.size := KC.out.bx.lt
              refine wp_region_held_drew (S := fun wz => (wz.cell? ⟨w.heap.size, 0, none⟩ = some (.slice av V.length cv) ∧ wz.cell? ⟨w.heap.size, 1, none⟩ = some (.slice al L.length cl)) ∧ (wz.cell? ⟨w.heap.size + 1, 0, none⟩ = some (.slice bv V'.length dv) ∧ wz.cell? ⟨w.heap.size + 1, 1, none⟩ = some (.slice bl L'.length dl))) (by kernel_rfl) ⟨⟨c0, c1⟩, d0, d1⟩ (fun hHeld => ?_)
              refine wpAnyH_take (i := 0) (oi := { dst := some 18, op := Op.load 24 (Operand.tmp 2), type := 24, pos := "conf.go:69", after := #[], guard := none }) (v := .agg #[.slice av V.length cv, .slice al L.length cl]) rfl (by kernel_rfl) (by kernel_rfl) (by kernel_rfl) (fun _ _ _ h => h) (Or.inl ⟨by rfl, ?_⟩) hHeld ?_
              · (intro w hSw; (try dsimp only at hSw); go_simp)
              try simp only [Act.put, List.setIfInBounds_toArray, List.set_cons_zero, List.set_cons_succ]
              refine wpAnyH_take (i := 1) (oi := { dst := some 19, op := Op.move (Operand.tmp 6), type := 3, pos := "conf.go:69", after := #[], guard := none }) (v := .int .i64 (k : Int)) rfl (by kernel_rfl) (by kernel_rfl) (by kernel_rfl) (fun _ _ _ h => h) (Or.inl ⟨by rfl, ?_⟩) hHeld ?_
              · (intro w hSw; (try dsimp only at hSw); go_simp)
              try simp only [Act.put, List.setIfInBounds_toArray, List.set_cons_zero, List.set_cons_succ]
              refine wpAnyH_take (i := 2) (oi := { dst := some 20, op := Op.binOp BinOp.add 3 (Operand.tmp 19) (Operand.const (Value.int IntKind.i64 1)) 3, type := 3, pos := "conf.go:69", after := #[{ on := 1, ground := Ground.data }], guard := none }) (v := .int .i64 ((k : Int) + 1)) rfl (by kernel_rfl) (by kernel_rfl) (by kernel_rfl) (fun _ _ _ h => h) (Or.inl ⟨by rfl, ?_⟩) hHeld ?_
              · (intro w hSw; (try dsimp only at hSw); go_simp; exact wrap_small _ (by omega) (by omega))
              try simp only [Act.put, List.setIfInBounds_toArray, List.set_cons_zero, List.set_cons_succ]
              refine wpAnyH_take (i := 4) (oi := { dst := some 22, op := Op.load 24 (Operand.tmp 3), type := 24, pos := "conf.go:69", after := #[], guard := none }) (v := .agg #[.slice bv V'.length dv, .slice bl L'.length dl]) rfl (by kernel_rfl) (by kernel_rfl) (by kernel_rfl) (fun _ _ _ h => h) (Or.inl ⟨by rfl, ?_⟩) hHeld ?_
              · (intro w hSw; (try dsimp only at hSw); go_simp)
              try simp only [Act.put, List.setIfInBounds_toArray, List.set_cons_zero, List.set_cons_succ]
              refine wpAnyH_take (i := 5) (oi := { dst := some 23, op := Op.move (Operand.tmp 6), type := 3, pos := "conf.go:69", after := #[], guard := none }) (v := .int .i64 (k : Int)) rfl (by kernel_rfl) (by kernel_rfl) (by kernel_rfl) (fun _ _ _ h => h) (Or.inl ⟨by rfl, ?_⟩) hHeld ?_
              · (intro w hSw; (try dsimp only at hSw); go_simp)
              try simp only [Act.put, List.setIfInBounds_toArray, List.set_cons_zero, List.set_cons_succ]
              refine wpAnyH_take (i := 6) (oi := { dst := some 24, op := Op.binOp BinOp.add 3 (Operand.tmp 23) (Operand.const (Value.int IntKind.i64 1)) 3, type := 3, pos := "conf.go:69", after := #[{ on := 5, ground := Ground.data }], guard := none }) (v := .int .i64 ((k : Int) + 1)) rfl (by kernel_rfl) (by kernel_rfl) (by kernel_rfl) (fun _ _ _ h => h) (Or.inl ⟨by rfl, ?_⟩) hHeld ?_
              · (intro w hSw; (try dsimp only at hSw); go_simp; exact wrap_small _ (by omega) (by omega))
              try simp only [Act.put, List.setIfInBounds_toArray, List.set_cons_zero, List.set_cons_succ]
              refine wpAnyH_ready (rs := [3]) (by kernel_rfl) (by simp) ?_
              refine AllReadyH.cons (o := { dst := some 21, op := Op.call { callee := Callee.value (Operand.func 16), args := #[Operand.tmp 18, Operand.tmp 20], argTypes := #[24, 3] }, type := 4, pos := "conf.go:69", after := #[{ on := 0, ground := Ground.data }, { on := 2, ground := Ground.data }], guard := none }) rfl (fun K hK => ?_) AllReadyH.nil
              go_simp
              refine HV.out.mono ?_
              rintro e w3 ⟨rfl, hb⟩
              have H3 := hidOf (HC.out.drew.grow hb)
              have K3 := hidOf (KC.out.drew.grow hb)
              clear hb
              refine hK.out _ _ ⟨⟨H3.out.bx.c0, H3.out.bx.c1⟩, K3.out.bx.c0, K3.out.bx.c1⟩ (fun hHeld1 => ?_)
              clear hK K
              try simp only [Act.put, List.setIfInBounds_toArray, List.set_cons_zero, List.set_cons_succ]
              refine wpAnyH_ready (rs := [7]) (by kernel_rfl) (by simp) ?_
              refine AllReadyH.cons (o := { dst := some 25, op := Op.call { callee := Callee.value (Operand.func 16), args := #[Operand.tmp 22, Operand.tmp 24], argTypes := #[24, 3] }, type := 4, pos := "conf.go:69", after := #[{ on := 4, ground := Ground.data }, { on := 6, ground := Ground.data }, { on := 3, ground := Ground.chain }], guard := none }) rfl (fun K hK => ?_) AllReadyH.nil
              go_simp
              have hw2 := voter_any w3 bv bl V' L' dv dl ((k : Int) + 1) K3.out.cf.v
              rw [HE4.out] at hw2
              refine hw2.mono ?_
              clear hw2
              rintro e w4 ⟨rfl, hb⟩
              have H4 := hidOf (H3.out.grow hb)
              have K4 := hidOf (K3.out.grow hb)
              clear hb
              refine hK.out _ _ ⟨⟨H4.out.bx.c0, H4.out.bx.c1⟩, K4.out.bx.c0, K4.out.bx.c1⟩ (fun hHeld2 => ?_)
              clear hK K
              try simp only [Act.put, List.setIfInBounds_toArray, List.set_cons_zero, List.set_cons_succ]
              refine wpAnyH_take (i := 8) (oi := { dst := some 26, op := Op.binOp BinOp.neq 4 (Operand.tmp 21) (Operand.tmp 25) 4, type := 4, pos := "conf.go:69", after := #[{ on := 3, ground := Ground.data }, { on := 7, ground := Ground.data }], guard := none }) (v := .bool true) rfl (by kernel_rfl) (by kernel_rfl) (by kernel_rfl) (fun _ _ _ h => h) (Or.inl ⟨by rfl, ?_⟩) hHeld2 ?_
              · (intro w hSw; (try dsimp only at hSw); go_simp)
              try simp only [Act.put, List.setIfInBounds_toArray, List.set_cons_zero, List.set_cons_succ]
              refine wpAnyH_done (by kernel_rfl) ?_ _
              go_wp2
              go_roundw
              case rel => exact ⟨k + 1, by rw [ED.out]; go_num, by go_num, by omega, H4, K4⟩
              case measure => simp [intOf]; omega
            | true =>
              have HE4 := hidOf e4
              rw [e3, e4] at ED
              clear e3 e4
              go_wp2_with (fail)
              have c0 := HC.out.bx.c0
              have c1 := HC.out.bx.c1
              have d0 : wr.cell? ⟨w.heap.size + 1, 0, none⟩ = _ := KC.out.bx.c0
              have d1 : wr.cell? ⟨w.heap.size + 1, 1, none⟩ = _ := KC.out.bx.c1
              have lt0 := HC.out.bx.lt
              have lt1 : w.heap.size + 1 < wr.heap.size := KC.out.bx.lt
              refine wp_region_held_drew (S := fun wz => (wz.cell? ⟨w.heap.size, 0, none⟩ = some (.slice av V.length cv) ∧ wz.cell? ⟨w.heap.size, 1, none⟩ = some (.slice al L.length cl)) ∧ (wz.cell? ⟨w.heap.size + 1, 0, none⟩ = some (.slice bv V'.length dv) ∧ wz.cell? ⟨w.heap.size + 1, 1, none⟩ = some (.slice bl L'.length dl))) (by kernel_rfl) ⟨⟨c0, c1⟩, d0, d1⟩ (fun hHeld => ?_)
              refine wpAnyH_take (i := 0) (oi := { dst := some 18, op := Op.load 24 (Operand.tmp 2), type := 24, pos := "conf.go:69", after := #[], guard := none }) (v := .agg #[.slice av V.length cv, .slice al L.length cl]) rfl (by kernel_rfl) (by kernel_rfl) (by kernel_rfl) (fun _ _ _ h => h) (Or.inl ⟨by rfl, ?_⟩) hHeld ?_
              · (intro w hSw; (try dsimp only at hSw); go_simp)
              try simp only [Act.put, List.setIfInBounds_toArray, List.set_cons_zero, List.set_cons_succ]
              refine wpAnyH_take (i := 1) (oi := { dst := some 19, op := Op.move (Operand.tmp 6), type := 3, pos := "conf.go:69", after := #[], guard := none }) (v := .int .i64 (k : Int)) rfl (by kernel_rfl) (by kernel_rfl) (by kernel_rfl) (fun _ _ _ h => h) (Or.inl ⟨by rfl, ?_⟩) hHeld ?_
              · (intro w hSw; (try dsimp only at hSw); go_simp)
              try simp only [Act.put, List.setIfInBounds_toArray, List.set_cons_zero, List.set_cons_succ]
              refine wpAnyH_take (i := 2) (oi := { dst := some 20, op := Op.binOp BinOp.add 3 (Operand.tmp 19) (Operand.const (Value.int IntKind.i64 1)) 3, type := 3, pos := "conf.go:69", after := #[{ on := 1, ground := Ground.data }], guard := none }) (v := .int .i64 ((k : Int) + 1)) rfl (by kernel_rfl) (by kernel_rfl) (by kernel_rfl) (fun _ _ _ h => h) (Or.inl ⟨by rfl, ?_⟩) hHeld ?_
              · (intro w hSw; (try dsimp only at hSw); go_simp; exact wrap_small _ (by omega) (by omega))
              try simp only [Act.put, List.setIfInBounds_toArray, List.set_cons_zero, List.set_cons_succ]
              refine wpAnyH_take (i := 4) (oi := { dst := some 22, op := Op.load 24 (Operand.tmp 3), type := 24, pos := "conf.go:69", after := #[], guard := none }) (v := .agg #[.slice bv V'.length dv, .slice bl L'.length dl]) rfl (by kernel_rfl) (by kernel_rfl) (by kernel_rfl) (fun _ _ _ h => h) (Or.inl ⟨by rfl, ?_⟩) hHeld ?_
              · (intro w hSw; (try dsimp only at hSw); go_simp)
              try simp only [Act.put, List.setIfInBounds_toArray, List.set_cons_zero, List.set_cons_succ]
              refine wpAnyH_take (i := 5) (oi := { dst := some 23, op := Op.move (Operand.tmp 6), type := 3, pos := "conf.go:69", after := #[], guard := none }) (v := .int .i64 (k : Int)) rfl (by kernel_rfl) (by kernel_rfl) (by kernel_rfl) (fun _ _ _ h => h) (Or.inl ⟨by rfl, ?_⟩) hHeld ?_
              · (intro w hSw; (try dsimp only at hSw); go_simp)
              try simp only [Act.put, List.setIfInBounds_toArray, List.set_cons_zero, List.set_cons_succ]
              refine wpAnyH_take (i := 6) (oi := { dst := some 24, op := Op.binOp BinOp.add 3 (Operand.tmp 23) (Operand.const (Value.int IntKind.i64 1)) 3, type := 3, pos := "conf.go:69", after := #[{ on := 5, ground := Ground.data }], guard := none }) (v := .int .i64 ((k : Int) + 1)) rfl (by kernel_rfl) (by kernel_rfl) (by kernel_rfl) (fun _ _ _ h => h) (Or.inl ⟨by rfl, ?_⟩) hHeld ?_
              · (intro w hSw; (try dsimp only at hSw); go_simp; exact wrap_small _ (by omega) (by omega))
              try simp only [Act.put, List.setIfInBounds_toArray, List.set_cons_zero, List.set_cons_succ]
              refine wpAnyH_ready (rs := [3]) (by kernel_rfl) (by simp) ?_
              refine AllReadyH.cons (o := { dst := some 21, op := Op.call { callee := Callee.value (Operand.func 16), args := #[Operand.tmp 18, Operand.tmp 20], argTypes := #[24, 3] }, type := 4, pos := "conf.go:69", after := #[{ on := 0, ground := Ground.data }, { on := 2, ground := Ground.data }], guard := none }) rfl (fun K hK => ?_) AllReadyH.nil
              go_simp
              refine HV.out.mono ?_
              rintro e w3 ⟨rfl, hb⟩
              have H3 := hidOf (HC.out.drew.grow hb)
              have K3 := hidOf (KC.out.drew.grow hb)
              clear hb
              refine hK.out _ _ ⟨⟨H3.out.bx.c0, H3.out.bx.c1⟩, K3.out.bx.c0, K3.out.bx.c1⟩ (fun hHeld1 => ?_)
              clear hK K
              try simp only [Act.put, List.setIfInBounds_toArray, List.set_cons_zero, List.set_cons_succ]
              refine wpAnyH_ready (rs := [7]) (by kernel_rfl) (by simp) ?_
              refine AllReadyH.cons (o := { dst := some 25, op := Op.call { callee := Callee.value (Operand.func 16), args := #[Operand.tmp 22, Operand.tmp 24], argTypes := #[24, 3] }, type := 4, pos := "conf.go:69", after := #[{ on := 4, ground := Ground.data }, { on := 6, ground := Ground.data }, { on := 3, ground := Ground.chain }], guard := none }) rfl (fun K hK => ?_) AllReadyH.nil
              go_simp
              have hw2 := voter_any w3 bv bl V' L' dv dl ((k : Int) + 1) K3.out.cf.v
              rw [HE4.out] at hw2
              refine hw2.mono ?_
              clear hw2
              rintro e w4 ⟨rfl, hb⟩
              have H4 := hidOf (H3.out.grow hb)
              have K4 := hidOf (K3.out.grow hb)
              clear hb
              refine hK.out _ _ ⟨⟨H4.out.bx.c0, H4.out.bx.c1⟩, K4.out.bx.c0, K4.out.bx.c1⟩ (fun hHeld2 => ?_)
              clear hK K
              try simp only [Act.put, List.setIfInBounds_toArray, List.set_cons_zero, List.set_cons_succ]
              refine wpAnyH_take (i := 8) (oi := { dst := some 26, op := Op.binOp BinOp.neq 4 (Operand.tmp 21) (Operand.tmp 25) 4, type := 4, pos := "conf.go:69", after := #[{ on := 3, ground := Ground.data }, { on := 7, ground := Ground.data }], guard := none }) (v := .bool false) rfl (by kernel_rfl) (by kernel_rfl) (by kernel_rfl) (fun _ _ _ h => h) (Or.inl ⟨by rfl, ?_⟩) hHeld2 ?_
              · (intro w hSw; (try dsimp only at hSw); go_simp)
              try simp only [Act.put, List.setIfInBounds_toArray, List.set_cons_zero, List.set_cons_succ]
              refine wpAnyH_done (by kernel_rfl) ?_ _
              go_wp2
              go_roundw
              case rel => exact ⟨k + 1, by rw [ED.out]; go_num, by go_num, by omega, H4, K4⟩
              case measure => simp [intOf]; omega
        · obtain rfl : k = 5 := by omega
          have hltz : ¬ ((5 : Nat) : Int) < 5 := by omega
          have EF := hidOf (EE.out.trans (one_le (dif V V' 5)).symm)
          generalize dif V V' 5 = q at EF ⊢
          go_wp2
          go_ret
          exact ⟨by rw [EF.out]; rfl, HC.out.bel⟩
end Go.Proofs.Yteaohmlbioooaaa
