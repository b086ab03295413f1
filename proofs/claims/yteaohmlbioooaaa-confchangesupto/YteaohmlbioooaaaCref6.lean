/- The document's Remove and Single. -/
import Derived.Test.YteaohmlbioooaaaCref5
namespace Go.Proofs.Yteaohmlbioooaaa
open Go.RowKit

theorem Cs.setOther {w z : World} {k q : Nat} {av al : Option Addr} {V L : List Int} {cv cl : Nat} {p p' : Option Addr} {i i' c c' : Nat} (h : Cs w z k av al V L cv cl) (hq : Bx z q (.slice p i c) (.slice p' i' c')) (hk : k ≠ q) (hw : w.heap.size ≤ q) (u v : Value) : Cs w ((z.setCell ⟨q, 0, none⟩ u).setCell ⟨q, 1, none⟩ v) k av al V L cv cl :=
  ⟨⟨h.cf.v.setOther hq u v, h.cf.l.setOther hq u v⟩, by
    show _ = _
    rw [Below.heap_setCell _ ⟨q, 1, none⟩ _ k hk, Below.heap_setCell _ ⟨q, 0, none⟩ _ k hk]
    exact h.bx, (h.bel.setCell (p := ⟨q, 0, none⟩) hw u).setCell (p := ⟨q, 1, none⟩) hw v⟩
theorem Ch.setQ {w z : World} {q : Nat} {av al : Option Addr} {V L : List Int} {cv cl : Nat} {p p' : Option Addr} {i i' c c' : Nat} (h : Ch w z av al V L cv cl) (hq : Bx z q (.slice p i c) (.slice p' i' c')) (hw : w.heap.size + 1 < q) (u v : Value) : Ch w ((z.setCell ⟨q, 0, none⟩ u).setCell ⟨q, 1, none⟩ v) av al V L cv cl :=
  ⟨h.cs.setOther hq (by omega) (by omega) u v, by
    show _ = _
    rw [Below.heap_setCell _ ⟨q, 1, none⟩ _ (w.heap.size + 1) (by show w.heap.size + 1 ≠ q; omega), Below.heap_setCell _ ⟨q, 0, none⟩ _ (w.heap.size + 1) (by show w.heap.size + 1 ≠ q; omega)]
    exact h.rs⟩
theorem wto_nil {V : List Int} {s : Int} (h : Rise V) (hs : s ∈ V) : wto V s = [] ↔ V.length = 1 := by
  constructor
  · intro e
    have h1 : ∀ x ∈ V, x = s := fun x hx => by
      apply Classical.byContradiction
      intro hne
      have := (wto_mem V s x).2 ⟨hx, hne⟩
      rw [e] at this; cases this
    have h2 : V = [s] := h.ext ⟨by simp, fun x hx => by rw [List.mem_singleton.1 hx]; exact h.2 s hs⟩ (fun x => by rw [List.mem_singleton]; exact ⟨h1 x, fun e => e ▸ hs⟩)
    rw [h2]; rfl
  · intro e
    match V, e with
    | [x], _ =>
      have : s = x := by simpa using hs
      subst this
      simp [wto]

set_option maxHeartbeats 4000000 in
theorem rremove_no (w : World) (av al : Option Addr) (V L : List Int) (cv cl : Nat) (s : Int) (h : Cf w av al V L) (HLN : Hid (V.length + L.length ≤ 17592186044416)) (hn : remB V L s = false) : Calls Try.prog 30 #[.agg #[.slice av V.length cv, .slice al L.length cl], .int .i64 s] w fun e w' => ∃ a1 k1 a2 k2, e = .returned (.tuple #[.agg #[.slice a1 ([] : List Int).length k1, .slice a2 ([] : List Int).length k2], .int .i64 22]) ∧ Ints w' a1 ([] : List Int) ∧ Ints w' a2 ([] : List Int) ∧ Below w.heap.size w w' := by
  have H0 := hidOf (Ch.begin cv cl h)
  have hm := rmay_any _ av al V L cv cl H0.out.cs.cf
  clear h
  unfold remB at hn
  obtain ⟨i, hii⟩ : ∃ i, i = (mem V L).contains s := ⟨_, rfl⟩
  have HE := hidOf hii.symm
  cases e1 : mayB V L with
  | false =>
    rw [e1] at hm
    have HM := hidOf hm
    clear hm e1 hn hii
    go_enter Try.func30, Try.ntmps30
    go_wp2_with (first
      | (go_at_call 13; refine HM.out.mono ?_; rintro e w1 ⟨rfl, hb⟩; have H1 := hidOf (H0.out.grow hb); clear hb HM; have c0 := H1.out.cs.bx.c0; have c1 := H1.out.cs.bx.c1; have lt0 := H1.out.cs.bx.lt)
      | (go_at_call 11; refine (rmembers_any w1 av al V L cv cl H1.out.cs.cf HLN.out).mono ?_; rintro e w2 ⟨ma, mk, rfl, hi, hb⟩; have H2 := hidOf (H1.out.grow hb); have HIM := hidOf hi; clear hb hi c0 c1 lt0)
      | (go_at_call 17; have hin := in_any w2 ma (mem V L) mk s HIM.out; rw [HE.out] at hin; refine hin.mono ?_; clear hin; rintro e zz ⟨rfl, hw⟩; subst zz; have l2 : w.heap.size + 1 < w2.heap.size := H2.out.rs.lt; have f2 : ∀ j, w2.frozen? ⟨w.heap.size + 1, j, none⟩ = false := H2.out.rs.fr; have r0 : w2.cell? ⟨w.heap.size + 1, 0, none⟩ = _ := H2.out.rs.c0; have r1 : w2.cell? ⟨w.heap.size + 1, 1, none⟩ = _ := H2.out.rs.c1; have c0 := H2.out.cs.bx.c0; have c1 := H2.out.cs.bx.c1; have lt0 := H2.out.cs.bx.lt))
    exact bodyPost_ret (results_bx Try.results30 _ _ (w.heap.size + 1) (.slice none 0 0) (.slice none 0 0) (.int .i64 22) rfl rfl (H2.out.rs.set _ _)) rfl ⟨none, 0, none, 0, rfl, Ints.nil _ _, Ints.nil _ _, H2.out.set _ _⟩
  | true =>
    rw [e1] at hm hn
    rw [Bool.true_and] at hn
    have hmp := (may_iff V L).1 e1
    have HM := hidOf hm
    clear hm e1
    cases i with
    | false =>
      clear hn hii
      go_enter Try.func30, Try.ntmps30
      go_wp2_with (first
        | (go_at_call 13; refine HM.out.mono ?_; rintro e w1 ⟨rfl, hb⟩; have H1 := hidOf (H0.out.grow hb); clear hb HM; have c0 := H1.out.cs.bx.c0; have c1 := H1.out.cs.bx.c1; have lt0 := H1.out.cs.bx.lt)
        | (go_at_call 11; refine (rmembers_any w1 av al V L cv cl H1.out.cs.cf HLN.out).mono ?_; rintro e w2 ⟨ma, mk, rfl, hi, hb⟩; have H2 := hidOf (H1.out.grow hb); have HIM := hidOf hi; clear hb hi c0 c1 lt0)
        | (go_at_call 17; have hin := in_any w2 ma (mem V L) mk s HIM.out; rw [HE.out] at hin; refine hin.mono ?_; clear hin; rintro e zz ⟨rfl, hw⟩; subst zz; have l2 : w.heap.size + 1 < w2.heap.size := H2.out.rs.lt; have f2 : ∀ j, w2.frozen? ⟨w.heap.size + 1, j, none⟩ = false := H2.out.rs.fr; have r0 : w2.cell? ⟨w.heap.size + 1, 0, none⟩ = _ := H2.out.rs.c0; have r1 : w2.cell? ⟨w.heap.size + 1, 1, none⟩ = _ := H2.out.rs.c1; have c0 := H2.out.cs.bx.c0; have c1 := H2.out.cs.bx.c1; have lt0 := H2.out.cs.bx.lt))
      exact bodyPost_ret (results_bx Try.results30 _ _ (w.heap.size + 1) (.slice none 0 0) (.slice none 0 0) (.int .i64 22) rfl rfl (H2.out.rs.set _ _)) rfl ⟨none, 0, none, 0, rfl, Ints.nil _ _, Ints.nil _ _, H2.out.set _ _⟩
    | true =>
      have hw : wto V s = [] := by
        rw [mem_contains] at hii
        cases e2 : V.contains s with
        | false => rw [e2] at hn hii; rw [Bool.false_or] at hii; rw [← hii] at hn; cases hn
        | true =>
          rw [e2] at hn
          exact (wto_nil hmp.2.1 (contains_eq.1 e2)).2 (by simp at hn; omega)
      have HWL : Hid (((((wto V s).length : Nat) : Int) == 0) = true) := hidOf (by rw [hw]; rfl)
      clear hn hii hmp hw
      go_enter Try.func30, Try.ntmps30
      go_wp2_with (first
        | (go_at_call 13; refine HM.out.mono ?_; rintro e w1 ⟨rfl, hb⟩; have H1 := hidOf (H0.out.grow hb); clear hb HM; have c0 := H1.out.cs.bx.c0; have c1 := H1.out.cs.bx.c1; have lt0 := H1.out.cs.bx.lt)
        | (go_at_call 11; refine (rmembers_any w1 av al V L cv cl H1.out.cs.cf HLN.out).mono ?_; rintro e w2 ⟨ma, mk, rfl, hi, hb⟩; have H2 := hidOf (H1.out.grow hb); have HIM := hidOf hi; clear hb hi c0 c1 lt0)
        | (go_at_call 17; have hin := in_any w2 ma (mem V L) mk s HIM.out; rw [HE.out] at hin; refine hin.mono ?_; clear hin; rintro e zz ⟨rfl, hw⟩; subst zz; have l2 : w.heap.size + 1 < w2.heap.size := H2.out.rs.lt; have f2 : ∀ j, w2.frozen? ⟨w.heap.size + 1, j, none⟩ = false := H2.out.rs.fr; have r0 : w2.cell? ⟨w.heap.size + 1, 0, none⟩ = _ := H2.out.rs.c0; have r1 : w2.cell? ⟨w.heap.size + 1, 1, none⟩ = _ := H2.out.rs.c1; have c0 := H2.out.cs.bx.c0; have c1 := H2.out.cs.bx.c1; have lt0 := H2.out.cs.bx.lt))
      have HX := hidOf H2.out.drew
      clear l2 f2 r0 r1 lt0
      refine wp_region_held_drew (S := fun wz => wz.cell? ⟨w.heap.size, 0, none⟩ = some (.slice av V.length cv) ∧ wz.cell? ⟨w.heap.size, 1, none⟩ = some (.slice al L.length cl)) (by kernel_rfl) ⟨c0, c1⟩ (fun hHeld => ?_)
      refine wpAnyH_take (i := 0) (oi := { dst := some 22, op := Op.fieldAddr 24 (Operand.tmp 2) 0, type := 0, pos := "ref.go:182", after := #[], guard := none }) (v := .pointer (some ⟨w.heap.size, 0, none⟩)) rfl (by kernel_rfl) (by kernel_rfl) (by kernel_rfl) (fun _ _ _ h => h) (Or.inl ⟨by rfl, ?_⟩) hHeld ?_
      · (intro w hSw; (try dsimp only at hSw); go_simp)
      try simp only [Act.put, List.setIfInBounds_toArray, List.set_cons_zero, List.set_cons_succ]
      refine wpAnyH_take (i := 1) (oi := { dst := some 23, op := Op.load 22 (Operand.tmp 22), type := 22, pos := "ref.go:182", after := #[{ on := 0, ground := Ground.data }], guard := none }) (v := .slice av V.length cv) rfl (by kernel_rfl) (by kernel_rfl) (by kernel_rfl) (fun _ _ _ h => h) (Or.inl ⟨by rfl, ?_⟩) hHeld ?_
      · (intro w hSw; (try dsimp only at hSw); go_simp)
      try simp only [Act.put, List.setIfInBounds_toArray, List.set_cons_zero, List.set_cons_succ]
      refine wpAnyH_take (i := 2) (oi := { dst := some 24, op := Op.move (Operand.tmp 1), type := 3, pos := "ref.go:182", after := #[], guard := none }) (v := .int .i64 s) rfl (by kernel_rfl) (by kernel_rfl) (by kernel_rfl) (fun _ _ _ h => h) (Or.inl ⟨by rfl, ?_⟩) hHeld ?_
      · (intro w hSw; (try dsimp only at hSw); go_simp)
      try simp only [Act.put, List.setIfInBounds_toArray, List.set_cons_zero, List.set_cons_succ]
      refine wpAnyH_take (i := 4) (oi := { dst := some 26, op := Op.fieldAddr 24 (Operand.tmp 2) 1, type := 0, pos := "ref.go:182", after := #[], guard := none }) (v := .pointer (some ⟨w.heap.size, 1, none⟩)) rfl (by kernel_rfl) (by kernel_rfl) (by kernel_rfl) (fun _ _ _ h => h) (Or.inl ⟨by rfl, ?_⟩) hHeld ?_
      · (intro w hSw; (try dsimp only at hSw); go_simp)
      try simp only [Act.put, List.setIfInBounds_toArray, List.set_cons_zero, List.set_cons_succ]
      refine wpAnyH_take (i := 5) (oi := { dst := some 27, op := Op.load 22 (Operand.tmp 26), type := 22, pos := "ref.go:182", after := #[{ on := 4, ground := Ground.data }], guard := none }) (v := .slice al L.length cl) rfl (by kernel_rfl) (by kernel_rfl) (by kernel_rfl) (fun _ _ _ h => h) (Or.inl ⟨by rfl, ?_⟩) hHeld ?_
      · (intro w hSw; (try dsimp only at hSw); go_simp)
      try simp only [Act.put, List.setIfInBounds_toArray, List.set_cons_zero, List.set_cons_succ]
      refine wpAnyH_take (i := 6) (oi := { dst := some 28, op := Op.move (Operand.tmp 1), type := 3, pos := "ref.go:182", after := #[], guard := none }) (v := .int .i64 s) rfl (by kernel_rfl) (by kernel_rfl) (by kernel_rfl) (fun _ _ _ h => h) (Or.inl ⟨by rfl, ?_⟩) hHeld ?_
      · (intro w hSw; (try dsimp only at hSw); go_simp)
      try simp only [Act.put, List.setIfInBounds_toArray, List.set_cons_zero, List.set_cons_succ]
      refine wpAnyH_ready (rs := [3, 9]) (by kernel_rfl) (by simp) ?_
      refine (AllReadyH.cons (o := { dst := some 25, op := Op.call { callee := Callee.value (Operand.func 47), args := #[Operand.tmp 23, Operand.tmp 24], argTypes := #[22, 3] }, type := 22, pos := "ref.go:182", after := #[{ on := 1, ground := Ground.data }, { on := 2, ground := Ground.data }], guard := none }) rfl (fun K hK => ?_) (AllReadyH.cons (o := { dst := some 8, op := Op.alloc 24, type := 0, pos := "ref.go:182", after := #[], guard := none }) rfl (fun K hK => ?_) AllReadyH.nil))
      · go_simp
        refine (rwithout_any _ av V cv s HX.out.cs.cf.v).mono ?_
        rintro e z1 ⟨v, rfl, hr, hb⟩
        obtain ⟨a1, k1, rfl, _, _, _, _⟩ := hr.slice
        have H1 := hidOf (HX.out.grow hb)
        have R1 := hidOf hr
        clear hb hr
        refine hK.out _ _ ⟨H1.out.cs.bx.c0, H1.out.cs.bx.c1⟩ (fun hHeld1 => ?_)
        clear hK K
        try simp only [Act.put, List.setIfInBounds_toArray, List.set_cons_zero, List.set_cons_succ]
        refine wpAnyH_ready (rs := [7, 9]) (by kernel_rfl) (by simp) ?_
        refine (AllReadyH.cons (o := { dst := some 29, op := Op.call { callee := Callee.value (Operand.func 47), args := #[Operand.tmp 27, Operand.tmp 28], argTypes := #[22, 3] }, type := 22, pos := "ref.go:182", after := #[{ on := 5, ground := Ground.data }, { on := 6, ground := Ground.data }, { on := 3, ground := Ground.chain }], guard := none }) rfl (fun K hK => ?_) (AllReadyH.cons (o := { dst := some 8, op := Op.alloc 24, type := 0, pos := "ref.go:182", after := #[], guard := none }) rfl (fun K hK => ?_) AllReadyH.nil))
        · go_simp
          refine (rwithout_any _ al L cl s H1.out.cs.cf.l).mono ?_
          rintro e z2 ⟨v, rfl, hr, hb⟩
          obtain ⟨a2, k2, rfl, _, _, _, _⟩ := hr.slice
          have H2 := hidOf (H1.out.grow hb)
          have R2 := hidOf hr
          have RA2 := hidOf (R1.out.grow hb)
          clear hb hr
          refine hK.out _ _ ⟨H2.out.cs.bx.c0, H2.out.cs.bx.c1⟩ (fun hHeld2 => ?_)
          clear hK K
          try simp only [Act.put, List.setIfInBounds_toArray, List.set_cons_zero, List.set_cons_succ]
          refine wpAnyH_take (i := 8) (oi := { dst := some 30, op := Op.build 24 #[(0, Operand.tmp 25), (1, Operand.tmp 29)], type := 24, pos := "ref.go:182", after := #[{ on := 3, ground := Ground.data }, { on := 7, ground := Ground.data }], guard := none }) (v := .agg #[.slice a1 (wto V s).length k1, .slice a2 (wto L s).length k2]) rfl (by kernel_rfl) (by kernel_rfl) (by kernel_rfl) (fun _ _ _ h => h) (Or.inl ⟨by rfl, ?_⟩) hHeld2 ?_
          · (intro w hSw; (try dsimp only at hSw); go_simp)
          try simp only [Act.put, List.setIfInBounds_toArray, List.set_cons_zero, List.set_cons_succ]
          refine wpAnyH_ready (rs := [9]) (by kernel_rfl) (by simp) ?_
          refine (AllReadyH.cons (o := { dst := some 8, op := Op.alloc 24, type := 0, pos := "ref.go:182", after := #[], guard := none }) rfl (fun K hK => ?_) AllReadyH.nil)
          go_simp
          refine hK.out _ _ ⟨(H2.out.grow (below1 z2 (.cells #[.slice none 0 0, .slice none 0 0] 24))).cs.bx.c0, (H2.out.grow (below1 z2 (.cells #[.slice none 0 0, .slice none 0 0] 24))).cs.bx.c1⟩ (fun hHeld3 => ?_)
          clear hK K
          try simp only [Act.put, List.setIfInBounds_toArray, List.set_cons_zero, List.set_cons_succ]
          obtain ⟨z3, hz3⟩ : ∃ x, x = z2.alloc (.cells #[.slice none 0 0, .slice none 0 0] 24) := ⟨_, rfl⟩
          have H3 : Hid (Ch w z3 av al V L cv cl) := hidOf (by rw [hz3]; exact H2.out.grow (below1 z2 (.cells #[.slice none 0 0, .slice none 0 0] 24)))
          have BQ3 : Hid (Bx z3 (z2.heap.size) (.slice none 0 0) (.slice none 0 0)) := hidOf (by rw [hz3]; exact bx_new z2 (.slice none 0 0) (.slice none 0 0))
          have R1x3 := hidOf (RA2.out.grow (below1 z2 (.cells #[.slice none 0 0, .slice none 0 0] 24)))
          rw [← hz3] at R1x3
          have R2x3 := hidOf (R2.out.grow (below1 z2 (.cells #[.slice none 0 0, .slice none 0 0] 24)))
          rw [← hz3] at R2x3
          rw [← hz3] at hHeld3 ⊢
          clear hz3
          have HQ := hidOf BQ3.out
          have q0 : z3.cell? ⟨z2.heap.size, 0, none⟩ = _ := HQ.out.c0
          have q1 : z3.cell? ⟨z2.heap.size, 1, none⟩ = _ := HQ.out.c1
          have q2 : ∀ j, z3.frozen? ⟨z2.heap.size, j, none⟩ = false := HQ.out.fr
          have q3 : z2.heap.size < z3.heap.size := HQ.out.lt
          have HF := hidOf (H3.out.setQ HQ.out (by exact H2.out.rs.lt) (.slice a1 (wto V s).length k1) (.slice a2 (wto L s).length k2))
          have HFQ := hidOf (HQ.out.set (.slice a1 (wto V s).length k1) (.slice a2 (wto L s).length k2))
          have HI1 := hidOf (R1x3.out.ints.setOther HQ.out (.slice a1 (wto V s).length k1) (.slice a2 (wto L s).length k2))
          have HI2 := hidOf (R2x3.out.ints.setOther HQ.out (.slice a1 (wto V s).length k1) (.slice a2 (wto L s).length k2))
          refine wpAnyH_ready (rs := [10]) (by kernel_rfl) (by simp) ?_
          refine AllReadyH.cons (o := { dst := none, op := Op.store 24 (Operand.tmp 8) (Operand.tmp 30), type := 0, pos := "ref.go:182", after := #[{ on := 9, ground := Ground.data }, { on := 8, ground := Ground.data }, { on := 7, ground := Ground.chain }, { on := 0, ground := Ground.phase }, { on := 1, ground := Ground.phase }, { on := 2, ground := Ground.phase }, { on := 3, ground := Ground.phase }, { on := 4, ground := Ground.phase }, { on := 5, ground := Ground.phase }, { on := 6, ground := Ground.phase }, { on := 7, ground := Ground.phase }, { on := 8, ground := Ground.phase }, { on := 9, ground := Ground.phase }], guard := none }) rfl (fun K hK => ?_) AllReadyH.nil
          go_simp
          refine hK.out _ _ ⟨HF.out.cs.bx.c0, HF.out.cs.bx.c1⟩ (fun hLast => ?_)
          clear hK K
          try simp only [Act.put, List.setIfInBounds_toArray, List.set_cons_zero, List.set_cons_succ]
          refine wpAnyH_done (by kernel_rfl) ?_ _
          obtain ⟨zf, hzf⟩ : ∃ x, x = (z3.setCell ⟨z2.heap.size, 0, none⟩ (.slice a1 (wto V s).length k1)).setCell ⟨z2.heap.size, 1, none⟩ (.slice a2 (wto L s).length k2) := ⟨_, rfl⟩
          rw [← hzf] at HF HFQ HI1 HI2 ⊢
          clear hzf hLast q0 q1 q2 q3
          have e0 := HFQ.out.c0
          have e1 := HFQ.out.c1
          have e2 := HFQ.out.lt
          have r0 : zf.cell? ⟨w.heap.size + 1, 0, none⟩ = _ := HF.out.rs.c0
          have r1 : zf.cell? ⟨w.heap.size + 1, 1, none⟩ = _ := HF.out.rs.c1
          have r2 : ∀ j, zf.frozen? ⟨w.heap.size + 1, j, none⟩ = false := HF.out.rs.fr
          have r3 : w.heap.size + 1 < zf.heap.size := HF.out.rs.lt
          clear c0 c1
          have hwl := HWL.out
          generalize (wto V s).length = nv at *
          go_wp2
          exact bodyPost_ret (results_bx Try.results30 _ _ (w.heap.size + 1) (.slice none 0 0) (.slice none 0 0) (.int .i64 22) rfl rfl (HF.out.rs.set _ _)) rfl ⟨none, 0, none, 0, rfl, Ints.nil _ _, Ints.nil _ _, HF.out.set _ _⟩
        · go_simp
          refine hK.out _ _ ⟨(H1.out.grow (below1 z1 (.cells #[.slice none 0 0, .slice none 0 0] 24))).cs.bx.c0, (H1.out.grow (below1 z1 (.cells #[.slice none 0 0, .slice none 0 0] 24))).cs.bx.c1⟩ (fun hHeld4 => ?_)
          clear hK K
          try simp only [Act.put, List.setIfInBounds_toArray, List.set_cons_zero, List.set_cons_succ]
          obtain ⟨z4, hz4⟩ : ∃ x, x = z1.alloc (.cells #[.slice none 0 0, .slice none 0 0] 24) := ⟨_, rfl⟩
          have H4 : Hid (Ch w z4 av al V L cv cl) := hidOf (by rw [hz4]; exact H1.out.grow (below1 z1 (.cells #[.slice none 0 0, .slice none 0 0] 24)))
          have BQ4 : Hid (Bx z4 (z1.heap.size) (.slice none 0 0) (.slice none 0 0)) := hidOf (by rw [hz4]; exact bx_new z1 (.slice none 0 0) (.slice none 0 0))
          have R1x4 := hidOf (R1.out.grow (below1 z1 (.cells #[.slice none 0 0, .slice none 0 0] 24)))
          rw [← hz4] at R1x4
          rw [← hz4] at hHeld4 ⊢
          clear hz4
          refine wpAnyH_ready (rs := [7]) (by kernel_rfl) (by simp) ?_
          refine (AllReadyH.cons (o := { dst := some 29, op := Op.call { callee := Callee.value (Operand.func 47), args := #[Operand.tmp 27, Operand.tmp 28], argTypes := #[22, 3] }, type := 22, pos := "ref.go:182", after := #[{ on := 5, ground := Ground.data }, { on := 6, ground := Ground.data }, { on := 3, ground := Ground.chain }], guard := none }) rfl (fun K hK => ?_) AllReadyH.nil)
          go_simp
          refine (rwithout_any _ al L cl s H4.out.cs.cf.l).mono ?_
          rintro e z5 ⟨v, rfl, hr, hb⟩
          obtain ⟨a2, k2, rfl, _, _, _, _⟩ := hr.slice
          have H5 := hidOf (H4.out.grow hb)
          have R5 := hidOf hr
          have RA5 := hidOf (R1x4.out.grow hb)
          have BQ5 := hidOf (BQ4.out.grow hb)
          clear hb hr
          refine hK.out _ _ ⟨H5.out.cs.bx.c0, H5.out.cs.bx.c1⟩ (fun hHeld5 => ?_)
          clear hK K
          try simp only [Act.put, List.setIfInBounds_toArray, List.set_cons_zero, List.set_cons_succ]
          refine wpAnyH_take (i := 8) (oi := { dst := some 30, op := Op.build 24 #[(0, Operand.tmp 25), (1, Operand.tmp 29)], type := 24, pos := "ref.go:182", after := #[{ on := 3, ground := Ground.data }, { on := 7, ground := Ground.data }], guard := none }) (v := .agg #[.slice a1 (wto V s).length k1, .slice a2 (wto L s).length k2]) rfl (by kernel_rfl) (by kernel_rfl) (by kernel_rfl) (fun _ _ _ h => h) (Or.inl ⟨by rfl, ?_⟩) hHeld5 ?_
          · (intro w hSw; (try dsimp only at hSw); go_simp)
          try simp only [Act.put, List.setIfInBounds_toArray, List.set_cons_zero, List.set_cons_succ]
          have HQ := hidOf BQ5.out
          have q0 : z5.cell? ⟨z1.heap.size, 0, none⟩ = _ := HQ.out.c0
          have q1 : z5.cell? ⟨z1.heap.size, 1, none⟩ = _ := HQ.out.c1
          have q2 : ∀ j, z5.frozen? ⟨z1.heap.size, j, none⟩ = false := HQ.out.fr
          have q3 : z1.heap.size < z5.heap.size := HQ.out.lt
          have HF := hidOf (H5.out.setQ HQ.out (by exact H1.out.rs.lt) (.slice a1 (wto V s).length k1) (.slice a2 (wto L s).length k2))
          have HFQ := hidOf (HQ.out.set (.slice a1 (wto V s).length k1) (.slice a2 (wto L s).length k2))
          have HI1 := hidOf (RA5.out.ints.setOther HQ.out (.slice a1 (wto V s).length k1) (.slice a2 (wto L s).length k2))
          have HI2 := hidOf (R5.out.ints.setOther HQ.out (.slice a1 (wto V s).length k1) (.slice a2 (wto L s).length k2))
          refine wpAnyH_ready (rs := [10]) (by kernel_rfl) (by simp) ?_
          refine AllReadyH.cons (o := { dst := none, op := Op.store 24 (Operand.tmp 8) (Operand.tmp 30), type := 0, pos := "ref.go:182", after := #[{ on := 9, ground := Ground.data }, { on := 8, ground := Ground.data }, { on := 7, ground := Ground.chain }, { on := 0, ground := Ground.phase }, { on := 1, ground := Ground.phase }, { on := 2, ground := Ground.phase }, { on := 3, ground := Ground.phase }, { on := 4, ground := Ground.phase }, { on := 5, ground := Ground.phase }, { on := 6, ground := Ground.phase }, { on := 7, ground := Ground.phase }, { on := 8, ground := Ground.phase }, { on := 9, ground := Ground.phase }], guard := none }) rfl (fun K hK => ?_) AllReadyH.nil
          go_simp
          refine hK.out _ _ ⟨HF.out.cs.bx.c0, HF.out.cs.bx.c1⟩ (fun hLast => ?_)
          clear hK K
          try simp only [Act.put, List.setIfInBounds_toArray, List.set_cons_zero, List.set_cons_succ]
          refine wpAnyH_done (by kernel_rfl) ?_ _
          obtain ⟨zf, hzf⟩ : ∃ x, x = (z5.setCell ⟨z1.heap.size, 0, none⟩ (.slice a1 (wto V s).length k1)).setCell ⟨z1.heap.size, 1, none⟩ (.slice a2 (wto L s).length k2) := ⟨_, rfl⟩
          rw [← hzf] at HF HFQ HI1 HI2 ⊢
          clear hzf hLast q0 q1 q2 q3
          have e0 := HFQ.out.c0
          have e1 := HFQ.out.c1
          have e2 := HFQ.out.lt
          have r0 : zf.cell? ⟨w.heap.size + 1, 0, none⟩ = _ := HF.out.rs.c0
          have r1 : zf.cell? ⟨w.heap.size + 1, 1, none⟩ = _ := HF.out.rs.c1
          have r2 : ∀ j, zf.frozen? ⟨w.heap.size + 1, j, none⟩ = false := HF.out.rs.fr
          have r3 : w.heap.size + 1 < zf.heap.size := HF.out.rs.lt
          clear c0 c1
          have hwl := HWL.out
          generalize (wto V s).length = nv at *
          go_wp2
          exact bodyPost_ret (results_bx Try.results30 _ _ (w.heap.size + 1) (.slice none 0 0) (.slice none 0 0) (.int .i64 22) rfl rfl (HF.out.rs.set _ _)) rfl ⟨none, 0, none, 0, rfl, Ints.nil _ _, Ints.nil _ _, HF.out.set _ _⟩
      · go_simp
        refine hK.out _ _ ⟨(HX.out.grow (below1 w2.drew (.cells #[.slice none 0 0, .slice none 0 0] 24))).cs.bx.c0, (HX.out.grow (below1 w2.drew (.cells #[.slice none 0 0, .slice none 0 0] 24))).cs.bx.c1⟩ (fun hHeld6 => ?_)
        clear hK K
        try simp only [Act.put, List.setIfInBounds_toArray, List.set_cons_zero, List.set_cons_succ]
        obtain ⟨z6, hz6⟩ : ∃ x, x = (w2.alloc (.cells #[.slice none 0 0, .slice none 0 0] 24)).drew := ⟨_, rfl⟩
        have H6 : Hid (Ch w z6 av al V L cv cl) := hidOf (by rw [hz6]; exact HX.out.grow (below1 w2.drew (.cells #[.slice none 0 0, .slice none 0 0] 24)))
        have BQ6 : Hid (Bx z6 (w2.heap.size) (.slice none 0 0) (.slice none 0 0)) := hidOf (by rw [hz6]; exact bx_new w2.drew (.slice none 0 0) (.slice none 0 0))
        rw [← hz6] at hHeld6 ⊢
        clear hz6
        refine wpAnyH_ready (rs := [3]) (by kernel_rfl) (by simp) ?_
        refine (AllReadyH.cons (o := { dst := some 25, op := Op.call { callee := Callee.value (Operand.func 47), args := #[Operand.tmp 23, Operand.tmp 24], argTypes := #[22, 3] }, type := 22, pos := "ref.go:182", after := #[{ on := 1, ground := Ground.data }, { on := 2, ground := Ground.data }], guard := none }) rfl (fun K hK => ?_) AllReadyH.nil)
        go_simp
        refine (rwithout_any _ av V cv s H6.out.cs.cf.v).mono ?_
        rintro e z7 ⟨v, rfl, hr, hb⟩
        obtain ⟨a1, k1, rfl, _, _, _, _⟩ := hr.slice
        have H7 := hidOf (H6.out.grow hb)
        have R7 := hidOf hr
        have BQ7 := hidOf (BQ6.out.grow hb)
        clear hb hr
        refine hK.out _ _ ⟨H7.out.cs.bx.c0, H7.out.cs.bx.c1⟩ (fun hHeld7 => ?_)
        clear hK K
        try simp only [Act.put, List.setIfInBounds_toArray, List.set_cons_zero, List.set_cons_succ]
        refine wpAnyH_ready (rs := [7]) (by kernel_rfl) (by simp) ?_
        refine (AllReadyH.cons (o := { dst := some 29, op := Op.call { callee := Callee.value (Operand.func 47), args := #[Operand.tmp 27, Operand.tmp 28], argTypes := #[22, 3] }, type := 22, pos := "ref.go:182", after := #[{ on := 5, ground := Ground.data }, { on := 6, ground := Ground.data }, { on := 3, ground := Ground.chain }], guard := none }) rfl (fun K hK => ?_) AllReadyH.nil)
        go_simp
        refine (rwithout_any _ al L cl s H7.out.cs.cf.l).mono ?_
        rintro e z8 ⟨v, rfl, hr, hb⟩
        obtain ⟨a2, k2, rfl, _, _, _, _⟩ := hr.slice
        have H8 := hidOf (H7.out.grow hb)
        have R8 := hidOf hr
        have RA8 := hidOf (R7.out.grow hb)
        have BQ8 := hidOf (BQ7.out.grow hb)
        clear hb hr
        refine hK.out _ _ ⟨H8.out.cs.bx.c0, H8.out.cs.bx.c1⟩ (fun hHeld8 => ?_)
        clear hK K
        try simp only [Act.put, List.setIfInBounds_toArray, List.set_cons_zero, List.set_cons_succ]
        refine wpAnyH_take (i := 8) (oi := { dst := some 30, op := Op.build 24 #[(0, Operand.tmp 25), (1, Operand.tmp 29)], type := 24, pos := "ref.go:182", after := #[{ on := 3, ground := Ground.data }, { on := 7, ground := Ground.data }], guard := none }) (v := .agg #[.slice a1 (wto V s).length k1, .slice a2 (wto L s).length k2]) rfl (by kernel_rfl) (by kernel_rfl) (by kernel_rfl) (fun _ _ _ h => h) (Or.inl ⟨by rfl, ?_⟩) hHeld8 ?_
        · (intro w hSw; (try dsimp only at hSw); go_simp)
        try simp only [Act.put, List.setIfInBounds_toArray, List.set_cons_zero, List.set_cons_succ]
        have HQ := hidOf BQ8.out
        have q0 : z8.cell? ⟨w2.heap.size, 0, none⟩ = _ := HQ.out.c0
        have q1 : z8.cell? ⟨w2.heap.size, 1, none⟩ = _ := HQ.out.c1
        have q2 : ∀ j, z8.frozen? ⟨w2.heap.size, j, none⟩ = false := HQ.out.fr
        have q3 : w2.heap.size < z8.heap.size := HQ.out.lt
        have HF := hidOf (H8.out.setQ HQ.out (by exact HX.out.rs.lt) (.slice a1 (wto V s).length k1) (.slice a2 (wto L s).length k2))
        have HFQ := hidOf (HQ.out.set (.slice a1 (wto V s).length k1) (.slice a2 (wto L s).length k2))
        have HI1 := hidOf (RA8.out.ints.setOther HQ.out (.slice a1 (wto V s).length k1) (.slice a2 (wto L s).length k2))
        have HI2 := hidOf (R8.out.ints.setOther HQ.out (.slice a1 (wto V s).length k1) (.slice a2 (wto L s).length k2))
        refine wpAnyH_ready (rs := [10]) (by kernel_rfl) (by simp) ?_
        refine AllReadyH.cons (o := { dst := none, op := Op.store 24 (Operand.tmp 8) (Operand.tmp 30), type := 0, pos := "ref.go:182", after := #[{ on := 9, ground := Ground.data }, { on := 8, ground := Ground.data }, { on := 7, ground := Ground.chain }, { on := 0, ground := Ground.phase }, { on := 1, ground := Ground.phase }, { on := 2, ground := Ground.phase }, { on := 3, ground := Ground.phase }, { on := 4, ground := Ground.phase }, { on := 5, ground := Ground.phase }, { on := 6, ground := Ground.phase }, { on := 7, ground := Ground.phase }, { on := 8, ground := Ground.phase }, { on := 9, ground := Ground.phase }], guard := none }) rfl (fun K hK => ?_) AllReadyH.nil
        go_simp
        refine hK.out _ _ ⟨HF.out.cs.bx.c0, HF.out.cs.bx.c1⟩ (fun hLast => ?_)
        clear hK K
        try simp only [Act.put, List.setIfInBounds_toArray, List.set_cons_zero, List.set_cons_succ]
        refine wpAnyH_done (by kernel_rfl) ?_ _
        obtain ⟨zf, hzf⟩ : ∃ x, x = (z8.setCell ⟨w2.heap.size, 0, none⟩ (.slice a1 (wto V s).length k1)).setCell ⟨w2.heap.size, 1, none⟩ (.slice a2 (wto L s).length k2) := ⟨_, rfl⟩
        rw [← hzf] at HF HFQ HI1 HI2 ⊢
        clear hzf hLast q0 q1 q2 q3
        have e0 := HFQ.out.c0
        have e1 := HFQ.out.c1
        have e2 := HFQ.out.lt
        have r0 : zf.cell? ⟨w.heap.size + 1, 0, none⟩ = _ := HF.out.rs.c0
        have r1 : zf.cell? ⟨w.heap.size + 1, 1, none⟩ = _ := HF.out.rs.c1
        have r2 : ∀ j, zf.frozen? ⟨w.heap.size + 1, j, none⟩ = false := HF.out.rs.fr
        have r3 : w.heap.size + 1 < zf.heap.size := HF.out.rs.lt
        clear c0 c1
        have hwl := HWL.out
        generalize (wto V s).length = nv at *
        go_wp2
        exact bodyPost_ret (results_bx Try.results30 _ _ (w.heap.size + 1) (.slice none 0 0) (.slice none 0 0) (.int .i64 22) rfl rfl (HF.out.rs.set _ _)) rfl ⟨none, 0, none, 0, rfl, Ints.nil _ _, Ints.nil _ _, HF.out.set _ _⟩
set_option maxHeartbeats 4000000 in
theorem rremove_yes (w : World) (av al : Option Addr) (V L : List Int) (cv cl : Nat) (s : Int) (h : Cf w av al V L) (HLN : Hid (V.length + L.length ≤ 17592186044416)) (hn : remB V L s = true) : Calls Try.prog 30 #[.agg #[.slice av V.length cv, .slice al L.length cl], .int .i64 s] w fun e w' => ∃ a1 k1 a2 k2, e = .returned (.tuple #[.agg #[.slice a1 (wto V s).length k1, .slice a2 (wto L s).length k2], .int .i64 0]) ∧ Ints w' a1 (wto V s) ∧ Ints w' a2 (wto L s) ∧ Below w.heap.size w w' := by
  have H0 := hidOf (Ch.begin cv cl h)
  have hm := rmay_any _ av al V L cv cl H0.out.cs.cf
  clear h
  unfold remB at hn
  obtain ⟨e1, hn⟩ := Bool.and_eq_true_iff.1 hn
  have hmp := (may_iff V L).1 e1
  have HE : Hid ((mem V L).contains s = true) := hidOf (by
    rw [mem_contains]
    cases e2 : V.contains s with
    | true => rfl
    | false => rw [e2] at hn; rw [Bool.false_or]; exact hn)
  have hw : wto V s ≠ [] := by
    cases e2 : V.contains s with
    | false => rw [wto_same (contains_no.1 e2)]; exact hmp.1
    | true =>
      rw [e2] at hn
      intro e
      have := (wto_nil hmp.2.1 (contains_eq.1 e2)).1 e
      rw [this] at hn
      cases hn
  have hwp := List.length_pos_iff.2 hw
  have HWL : Hid (((((wto V s).length : Nat) : Int) == 0) = false) := hidOf (by rw [beq_eq_false_iff_ne]; omega)
  rw [e1] at hm
  have HM := hidOf hm
  clear hm e1 hn hmp hw hwp
  go_enter Try.func30, Try.ntmps30
  go_wp2_with (first
    | (go_at_call 13; refine HM.out.mono ?_; rintro e w1 ⟨rfl, hb⟩; have H1 := hidOf (H0.out.grow hb); clear hb HM; have c0 := H1.out.cs.bx.c0; have c1 := H1.out.cs.bx.c1; have lt0 := H1.out.cs.bx.lt)
    | (go_at_call 11; refine (rmembers_any w1 av al V L cv cl H1.out.cs.cf HLN.out).mono ?_; rintro e w2 ⟨ma, mk, rfl, hi, hb⟩; have H2 := hidOf (H1.out.grow hb); have HIM := hidOf hi; clear hb hi c0 c1 lt0)
    | (go_at_call 17; have hin := in_any w2 ma (mem V L) mk s HIM.out; rw [HE.out] at hin; refine hin.mono ?_; clear hin; rintro e zz ⟨rfl, hw⟩; subst zz; have l2 : w.heap.size + 1 < w2.heap.size := H2.out.rs.lt; have f2 : ∀ j, w2.frozen? ⟨w.heap.size + 1, j, none⟩ = false := H2.out.rs.fr; have r0 : w2.cell? ⟨w.heap.size + 1, 0, none⟩ = _ := H2.out.rs.c0; have r1 : w2.cell? ⟨w.heap.size + 1, 1, none⟩ = _ := H2.out.rs.c1; have c0 := H2.out.cs.bx.c0; have c1 := H2.out.cs.bx.c1; have lt0 := H2.out.cs.bx.lt))
  have HX := hidOf H2.out.drew
  clear l2 f2 r0 r1 lt0
  refine wp_region_held_drew (S := fun wz => wz.cell? ⟨w.heap.size, 0, none⟩ = some (.slice av V.length cv) ∧ wz.cell? ⟨w.heap.size, 1, none⟩ = some (.slice al L.length cl)) (by kernel_rfl) ⟨c0, c1⟩ (fun hHeld => ?_)
  refine wpAnyH_take (i := 0) (oi := { dst := some 22, op := Op.fieldAddr 24 (Operand.tmp 2) 0, type := 0, pos := "ref.go:182", after := #[], guard := none }) (v := .pointer (some ⟨w.heap.size, 0, none⟩)) rfl (by kernel_rfl) (by kernel_rfl) (by kernel_rfl) (fun _ _ _ h => h) (Or.inl ⟨by rfl, ?_⟩) hHeld ?_
  · (intro w hSw; (try dsimp only at hSw); go_simp)
  try simp only [Act.put, List.setIfInBounds_toArray, List.set_cons_zero, List.set_cons_succ]
  refine wpAnyH_take (i := 1) (oi := { dst := some 23, op := Op.load 22 (Operand.tmp 22), type := 22, pos := "ref.go:182", after := #[{ on := 0, ground := Ground.data }], guard := none }) (v := .slice av V.length cv) rfl (by kernel_rfl) (by kernel_rfl) (by kernel_rfl) (fun _ _ _ h => h) (Or.inl ⟨by rfl, ?_⟩) hHeld ?_
  · (intro w hSw; (try dsimp only at hSw); go_simp)
  try simp only [Act.put, List.setIfInBounds_toArray, List.set_cons_zero, List.set_cons_succ]
  refine wpAnyH_take (i := 2) (oi := { dst := some 24, op := Op.move (Operand.tmp 1), type := 3, pos := "ref.go:182", after := #[], guard := none }) (v := .int .i64 s) rfl (by kernel_rfl) (by kernel_rfl) (by kernel_rfl) (fun _ _ _ h => h) (Or.inl ⟨by rfl, ?_⟩) hHeld ?_
  · (intro w hSw; (try dsimp only at hSw); go_simp)
  try simp only [Act.put, List.setIfInBounds_toArray, List.set_cons_zero, List.set_cons_succ]
  refine wpAnyH_take (i := 4) (oi := { dst := some 26, op := Op.fieldAddr 24 (Operand.tmp 2) 1, type := 0, pos := "ref.go:182", after := #[], guard := none }) (v := .pointer (some ⟨w.heap.size, 1, none⟩)) rfl (by kernel_rfl) (by kernel_rfl) (by kernel_rfl) (fun _ _ _ h => h) (Or.inl ⟨by rfl, ?_⟩) hHeld ?_
  · (intro w hSw; (try dsimp only at hSw); go_simp)
  try simp only [Act.put, List.setIfInBounds_toArray, List.set_cons_zero, List.set_cons_succ]
  refine wpAnyH_take (i := 5) (oi := { dst := some 27, op := Op.load 22 (Operand.tmp 26), type := 22, pos := "ref.go:182", after := #[{ on := 4, ground := Ground.data }], guard := none }) (v := .slice al L.length cl) rfl (by kernel_rfl) (by kernel_rfl) (by kernel_rfl) (fun _ _ _ h => h) (Or.inl ⟨by rfl, ?_⟩) hHeld ?_
  · (intro w hSw; (try dsimp only at hSw); go_simp)
  try simp only [Act.put, List.setIfInBounds_toArray, List.set_cons_zero, List.set_cons_succ]
  refine wpAnyH_take (i := 6) (oi := { dst := some 28, op := Op.move (Operand.tmp 1), type := 3, pos := "ref.go:182", after := #[], guard := none }) (v := .int .i64 s) rfl (by kernel_rfl) (by kernel_rfl) (by kernel_rfl) (fun _ _ _ h => h) (Or.inl ⟨by rfl, ?_⟩) hHeld ?_
  · (intro w hSw; (try dsimp only at hSw); go_simp)
  try simp only [Act.put, List.setIfInBounds_toArray, List.set_cons_zero, List.set_cons_succ]
  refine wpAnyH_ready (rs := [3, 9]) (by kernel_rfl) (by simp) ?_
  refine (AllReadyH.cons (o := { dst := some 25, op := Op.call { callee := Callee.value (Operand.func 47), args := #[Operand.tmp 23, Operand.tmp 24], argTypes := #[22, 3] }, type := 22, pos := "ref.go:182", after := #[{ on := 1, ground := Ground.data }, { on := 2, ground := Ground.data }], guard := none }) rfl (fun K hK => ?_) (AllReadyH.cons (o := { dst := some 8, op := Op.alloc 24, type := 0, pos := "ref.go:182", after := #[], guard := none }) rfl (fun K hK => ?_) AllReadyH.nil))
  · go_simp
    refine (rwithout_any _ av V cv s HX.out.cs.cf.v).mono ?_
    rintro e z1 ⟨v, rfl, hr, hb⟩
    obtain ⟨a1, k1, rfl, _, _, _, _⟩ := hr.slice
    have H1 := hidOf (HX.out.grow hb)
    have R1 := hidOf hr
    clear hb hr
    refine hK.out _ _ ⟨H1.out.cs.bx.c0, H1.out.cs.bx.c1⟩ (fun hHeld1 => ?_)
    clear hK K
    try simp only [Act.put, List.setIfInBounds_toArray, List.set_cons_zero, List.set_cons_succ]
    refine wpAnyH_ready (rs := [7, 9]) (by kernel_rfl) (by simp) ?_
    refine (AllReadyH.cons (o := { dst := some 29, op := Op.call { callee := Callee.value (Operand.func 47), args := #[Operand.tmp 27, Operand.tmp 28], argTypes := #[22, 3] }, type := 22, pos := "ref.go:182", after := #[{ on := 5, ground := Ground.data }, { on := 6, ground := Ground.data }, { on := 3, ground := Ground.chain }], guard := none }) rfl (fun K hK => ?_) (AllReadyH.cons (o := { dst := some 8, op := Op.alloc 24, type := 0, pos := "ref.go:182", after := #[], guard := none }) rfl (fun K hK => ?_) AllReadyH.nil))
    · go_simp
      refine (rwithout_any _ al L cl s H1.out.cs.cf.l).mono ?_
      rintro e z2 ⟨v, rfl, hr, hb⟩
      obtain ⟨a2, k2, rfl, _, _, _, _⟩ := hr.slice
      have H2 := hidOf (H1.out.grow hb)
      have R2 := hidOf hr
      have RA2 := hidOf (R1.out.grow hb)
      clear hb hr
      refine hK.out _ _ ⟨H2.out.cs.bx.c0, H2.out.cs.bx.c1⟩ (fun hHeld2 => ?_)
      clear hK K
      try simp only [Act.put, List.setIfInBounds_toArray, List.set_cons_zero, List.set_cons_succ]
      refine wpAnyH_take (i := 8) (oi := { dst := some 30, op := Op.build 24 #[(0, Operand.tmp 25), (1, Operand.tmp 29)], type := 24, pos := "ref.go:182", after := #[{ on := 3, ground := Ground.data }, { on := 7, ground := Ground.data }], guard := none }) (v := .agg #[.slice a1 (wto V s).length k1, .slice a2 (wto L s).length k2]) rfl (by kernel_rfl) (by kernel_rfl) (by kernel_rfl) (fun _ _ _ h => h) (Or.inl ⟨by rfl, ?_⟩) hHeld2 ?_
      · (intro w hSw; (try dsimp only at hSw); go_simp)
      try simp only [Act.put, List.setIfInBounds_toArray, List.set_cons_zero, List.set_cons_succ]
      refine wpAnyH_ready (rs := [9]) (by kernel_rfl) (by simp) ?_
      refine (AllReadyH.cons (o := { dst := some 8, op := Op.alloc 24, type := 0, pos := "ref.go:182", after := #[], guard := none }) rfl (fun K hK => ?_) AllReadyH.nil)
      go_simp
      refine hK.out _ _ ⟨(H2.out.grow (below1 z2 (.cells #[.slice none 0 0, .slice none 0 0] 24))).cs.bx.c0, (H2.out.grow (below1 z2 (.cells #[.slice none 0 0, .slice none 0 0] 24))).cs.bx.c1⟩ (fun hHeld3 => ?_)
      clear hK K
      try simp only [Act.put, List.setIfInBounds_toArray, List.set_cons_zero, List.set_cons_succ]
      obtain ⟨z3, hz3⟩ : ∃ x, x = z2.alloc (.cells #[.slice none 0 0, .slice none 0 0] 24) := ⟨_, rfl⟩
      have H3 : Hid (Ch w z3 av al V L cv cl) := hidOf (by rw [hz3]; exact H2.out.grow (below1 z2 (.cells #[.slice none 0 0, .slice none 0 0] 24)))
      have BQ3 : Hid (Bx z3 (z2.heap.size) (.slice none 0 0) (.slice none 0 0)) := hidOf (by rw [hz3]; exact bx_new z2 (.slice none 0 0) (.slice none 0 0))
      have R1x3 := hidOf (RA2.out.grow (below1 z2 (.cells #[.slice none 0 0, .slice none 0 0] 24)))
      rw [← hz3] at R1x3
      have R2x3 := hidOf (R2.out.grow (below1 z2 (.cells #[.slice none 0 0, .slice none 0 0] 24)))
      rw [← hz3] at R2x3
      rw [← hz3] at hHeld3 ⊢
      clear hz3
      have HQ := hidOf BQ3.out
      have q0 : z3.cell? ⟨z2.heap.size, 0, none⟩ = _ := HQ.out.c0
      have q1 : z3.cell? ⟨z2.heap.size, 1, none⟩ = _ := HQ.out.c1
      have q2 : ∀ j, z3.frozen? ⟨z2.heap.size, j, none⟩ = false := HQ.out.fr
      have q3 : z2.heap.size < z3.heap.size := HQ.out.lt
      have HF := hidOf (H3.out.setQ HQ.out (by exact H2.out.rs.lt) (.slice a1 (wto V s).length k1) (.slice a2 (wto L s).length k2))
      have HFQ := hidOf (HQ.out.set (.slice a1 (wto V s).length k1) (.slice a2 (wto L s).length k2))
      have HI1 := hidOf (R1x3.out.ints.setOther HQ.out (.slice a1 (wto V s).length k1) (.slice a2 (wto L s).length k2))
      have HI2 := hidOf (R2x3.out.ints.setOther HQ.out (.slice a1 (wto V s).length k1) (.slice a2 (wto L s).length k2))
      refine wpAnyH_ready (rs := [10]) (by kernel_rfl) (by simp) ?_
      refine AllReadyH.cons (o := { dst := none, op := Op.store 24 (Operand.tmp 8) (Operand.tmp 30), type := 0, pos := "ref.go:182", after := #[{ on := 9, ground := Ground.data }, { on := 8, ground := Ground.data }, { on := 7, ground := Ground.chain }, { on := 0, ground := Ground.phase }, { on := 1, ground := Ground.phase }, { on := 2, ground := Ground.phase }, { on := 3, ground := Ground.phase }, { on := 4, ground := Ground.phase }, { on := 5, ground := Ground.phase }, { on := 6, ground := Ground.phase }, { on := 7, ground := Ground.phase }, { on := 8, ground := Ground.phase }, { on := 9, ground := Ground.phase }], guard := none }) rfl (fun K hK => ?_) AllReadyH.nil
      go_simp
      refine hK.out _ _ ⟨HF.out.cs.bx.c0, HF.out.cs.bx.c1⟩ (fun hLast => ?_)
      clear hK K
      try simp only [Act.put, List.setIfInBounds_toArray, List.set_cons_zero, List.set_cons_succ]
      refine wpAnyH_done (by kernel_rfl) ?_ _
      obtain ⟨zf, hzf⟩ : ∃ x, x = (z3.setCell ⟨z2.heap.size, 0, none⟩ (.slice a1 (wto V s).length k1)).setCell ⟨z2.heap.size, 1, none⟩ (.slice a2 (wto L s).length k2) := ⟨_, rfl⟩
      rw [← hzf] at HF HFQ HI1 HI2 ⊢
      clear hzf hLast q0 q1 q2 q3
      have e0 := HFQ.out.c0
      have e1 := HFQ.out.c1
      have e2 := HFQ.out.lt
      have r0 : zf.cell? ⟨w.heap.size + 1, 0, none⟩ = _ := HF.out.rs.c0
      have r1 : zf.cell? ⟨w.heap.size + 1, 1, none⟩ = _ := HF.out.rs.c1
      have r2 : ∀ j, zf.frozen? ⟨w.heap.size + 1, j, none⟩ = false := HF.out.rs.fr
      have r3 : w.heap.size + 1 < zf.heap.size := HF.out.rs.lt
      clear c0 c1
      have hwl := HWL.out
      go_wp2
      exact bodyPost_ret (results_bx Try.results30 _ _ (w.heap.size + 1) _ _ (.int .i64 0) rfl rfl (HF.out.rs.set _ _)) rfl ⟨a1, k1, a2, k2, rfl, HI1.out.setOther HF.out.rs _ _, HI2.out.setOther HF.out.rs _ _, HF.out.set _ _⟩
    · go_simp
      refine hK.out _ _ ⟨(H1.out.grow (below1 z1 (.cells #[.slice none 0 0, .slice none 0 0] 24))).cs.bx.c0, (H1.out.grow (below1 z1 (.cells #[.slice none 0 0, .slice none 0 0] 24))).cs.bx.c1⟩ (fun hHeld4 => ?_)
      clear hK K
      try simp only [Act.put, List.setIfInBounds_toArray, List.set_cons_zero, List.set_cons_succ]
      obtain ⟨z4, hz4⟩ : ∃ x, x = z1.alloc (.cells #[.slice none 0 0, .slice none 0 0] 24) := ⟨_, rfl⟩
      have H4 : Hid (Ch w z4 av al V L cv cl) := hidOf (by rw [hz4]; exact H1.out.grow (below1 z1 (.cells #[.slice none 0 0, .slice none 0 0] 24)))
      have BQ4 : Hid (Bx z4 (z1.heap.size) (.slice none 0 0) (.slice none 0 0)) := hidOf (by rw [hz4]; exact bx_new z1 (.slice none 0 0) (.slice none 0 0))
      have R1x4 := hidOf (R1.out.grow (below1 z1 (.cells #[.slice none 0 0, .slice none 0 0] 24)))
      rw [← hz4] at R1x4
      rw [← hz4] at hHeld4 ⊢
      clear hz4
      refine wpAnyH_ready (rs := [7]) (by kernel_rfl) (by simp) ?_
      refine (AllReadyH.cons (o := { dst := some 29, op := Op.call { callee := Callee.value (Operand.func 47), args := #[Operand.tmp 27, Operand.tmp 28], argTypes := #[22, 3] }, type := 22, pos := "ref.go:182", after := #[{ on := 5, ground := Ground.data }, { on := 6, ground := Ground.data }, { on := 3, ground := Ground.chain }], guard := none }) rfl (fun K hK => ?_) AllReadyH.nil)
      go_simp
      refine (rwithout_any _ al L cl s H4.out.cs.cf.l).mono ?_
      rintro e z5 ⟨v, rfl, hr, hb⟩
      obtain ⟨a2, k2, rfl, _, _, _, _⟩ := hr.slice
      have H5 := hidOf (H4.out.grow hb)
      have R5 := hidOf hr
      have RA5 := hidOf (R1x4.out.grow hb)
      have BQ5 := hidOf (BQ4.out.grow hb)
      clear hb hr
      refine hK.out _ _ ⟨H5.out.cs.bx.c0, H5.out.cs.bx.c1⟩ (fun hHeld5 => ?_)
      clear hK K
      try simp only [Act.put, List.setIfInBounds_toArray, List.set_cons_zero, List.set_cons_succ]
      refine wpAnyH_take (i := 8) (oi := { dst := some 30, op := Op.build 24 #[(0, Operand.tmp 25), (1, Operand.tmp 29)], type := 24, pos := "ref.go:182", after := #[{ on := 3, ground := Ground.data }, { on := 7, ground := Ground.data }], guard := none }) (v := .agg #[.slice a1 (wto V s).length k1, .slice a2 (wto L s).length k2]) rfl (by kernel_rfl) (by kernel_rfl) (by kernel_rfl) (fun _ _ _ h => h) (Or.inl ⟨by rfl, ?_⟩) hHeld5 ?_
      · (intro w hSw; (try dsimp only at hSw); go_simp)
      try simp only [Act.put, List.setIfInBounds_toArray, List.set_cons_zero, List.set_cons_succ]
      have HQ := hidOf BQ5.out
      have q0 : z5.cell? ⟨z1.heap.size, 0, none⟩ = _ := HQ.out.c0
      have q1 : z5.cell? ⟨z1.heap.size, 1, none⟩ = _ := HQ.out.c1
      have q2 : ∀ j, z5.frozen? ⟨z1.heap.size, j, none⟩ = false := HQ.out.fr
      have q3 : z1.heap.size < z5.heap.size := HQ.out.lt
      have HF := hidOf (H5.out.setQ HQ.out (by exact H1.out.rs.lt) (.slice a1 (wto V s).length k1) (.slice a2 (wto L s).length k2))
      have HFQ := hidOf (HQ.out.set (.slice a1 (wto V s).length k1) (.slice a2 (wto L s).length k2))
      have HI1 := hidOf (RA5.out.ints.setOther HQ.out (.slice a1 (wto V s).length k1) (.slice a2 (wto L s).length k2))
      have HI2 := hidOf (R5.out.ints.setOther HQ.out (.slice a1 (wto V s).length k1) (.slice a2 (wto L s).length k2))
      refine wpAnyH_ready (rs := [10]) (by kernel_rfl) (by simp) ?_
      refine AllReadyH.cons (o := { dst := none, op := Op.store 24 (Operand.tmp 8) (Operand.tmp 30), type := 0, pos := "ref.go:182", after := #[{ on := 9, ground := Ground.data }, { on := 8, ground := Ground.data }, { on := 7, ground := Ground.chain }, { on := 0, ground := Ground.phase }, { on := 1, ground := Ground.phase }, { on := 2, ground := Ground.phase }, { on := 3, ground := Ground.phase }, { on := 4, ground := Ground.phase }, { on := 5, ground := Ground.phase }, { on := 6, ground := Ground.phase }, { on := 7, ground := Ground.phase }, { on := 8, ground := Ground.phase }, { on := 9, ground := Ground.phase }], guard := none }) rfl (fun K hK => ?_) AllReadyH.nil
      go_simp
      refine hK.out _ _ ⟨HF.out.cs.bx.c0, HF.out.cs.bx.c1⟩ (fun hLast => ?_)
      clear hK K
      try simp only [Act.put, List.setIfInBounds_toArray, List.set_cons_zero, List.set_cons_succ]
      refine wpAnyH_done (by kernel_rfl) ?_ _
      obtain ⟨zf, hzf⟩ : ∃ x, x = (z5.setCell ⟨z1.heap.size, 0, none⟩ (.slice a1 (wto V s).length k1)).setCell ⟨z1.heap.size, 1, none⟩ (.slice a2 (wto L s).length k2) := ⟨_, rfl⟩
      rw [← hzf] at HF HFQ HI1 HI2 ⊢
      clear hzf hLast q0 q1 q2 q3
      have e0 := HFQ.out.c0
      have e1 := HFQ.out.c1
      have e2 := HFQ.out.lt
      have r0 : zf.cell? ⟨w.heap.size + 1, 0, none⟩ = _ := HF.out.rs.c0
      have r1 : zf.cell? ⟨w.heap.size + 1, 1, none⟩ = _ := HF.out.rs.c1
      have r2 : ∀ j, zf.frozen? ⟨w.heap.size + 1, j, none⟩ = false := HF.out.rs.fr
      have r3 : w.heap.size + 1 < zf.heap.size := HF.out.rs.lt
      clear c0 c1
      have hwl := HWL.out
      go_wp2
      exact bodyPost_ret (results_bx Try.results30 _ _ (w.heap.size + 1) _ _ (.int .i64 0) rfl rfl (HF.out.rs.set _ _)) rfl ⟨a1, k1, a2, k2, rfl, HI1.out.setOther HF.out.rs _ _, HI2.out.setOther HF.out.rs _ _, HF.out.set _ _⟩
  · go_simp
    refine hK.out _ _ ⟨(HX.out.grow (below1 w2.drew (.cells #[.slice none 0 0, .slice none 0 0] 24))).cs.bx.c0, (HX.out.grow (below1 w2.drew (.cells #[.slice none 0 0, .slice none 0 0] 24))).cs.bx.c1⟩ (fun hHeld6 => ?_)
    clear hK K
    try simp only [Act.put, List.setIfInBounds_toArray, List.set_cons_zero, List.set_cons_succ]
    obtain ⟨z6, hz6⟩ : ∃ x, x = (w2.alloc (.cells #[.slice none 0 0, .slice none 0 0] 24)).drew := ⟨_, rfl⟩
    have H6 : Hid (Ch w z6 av al V L cv cl) := hidOf (by rw [hz6]; exact HX.out.grow (below1 w2.drew (.cells #[.slice none 0 0, .slice none 0 0] 24)))
    have BQ6 : Hid (Bx z6 (w2.heap.size) (.slice none 0 0) (.slice none 0 0)) := hidOf (by rw [hz6]; exact bx_new w2.drew (.slice none 0 0) (.slice none 0 0))
    rw [← hz6] at hHeld6 ⊢
    clear hz6
    refine wpAnyH_ready (rs := [3]) (by kernel_rfl) (by simp) ?_
    refine (AllReadyH.cons (o := { dst := some 25, op := Op.call { callee := Callee.value (Operand.func 47), args := #[Operand.tmp 23, Operand.tmp 24], argTypes := #[22, 3] }, type := 22, pos := "ref.go:182", after := #[{ on := 1, ground := Ground.data }, { on := 2, ground := Ground.data }], guard := none }) rfl (fun K hK => ?_) AllReadyH.nil)
    go_simp
    refine (rwithout_any _ av V cv s H6.out.cs.cf.v).mono ?_
    rintro e z7 ⟨v, rfl, hr, hb⟩
    obtain ⟨a1, k1, rfl, _, _, _, _⟩ := hr.slice
    have H7 := hidOf (H6.out.grow hb)
    have R7 := hidOf hr
    have BQ7 := hidOf (BQ6.out.grow hb)
    clear hb hr
    refine hK.out _ _ ⟨H7.out.cs.bx.c0, H7.out.cs.bx.c1⟩ (fun hHeld7 => ?_)
    clear hK K
    try simp only [Act.put, List.setIfInBounds_toArray, List.set_cons_zero, List.set_cons_succ]
    refine wpAnyH_ready (rs := [7]) (by kernel_rfl) (by simp) ?_
    refine (AllReadyH.cons (o := { dst := some 29, op := Op.call { callee := Callee.value (Operand.func 47), args := #[Operand.tmp 27, Operand.tmp 28], argTypes := #[22, 3] }, type := 22, pos := "ref.go:182", after := #[{ on := 5, ground := Ground.data }, { on := 6, ground := Ground.data }, { on := 3, ground := Ground.chain }], guard := none }) rfl (fun K hK => ?_) AllReadyH.nil)
    go_simp
    refine (rwithout_any _ al L cl s H7.out.cs.cf.l).mono ?_
    rintro e z8 ⟨v, rfl, hr, hb⟩
    obtain ⟨a2, k2, rfl, _, _, _, _⟩ := hr.slice
    have H8 := hidOf (H7.out.grow hb)
    have R8 := hidOf hr
    have RA8 := hidOf (R7.out.grow hb)
    have BQ8 := hidOf (BQ7.out.grow hb)
    clear hb hr
    refine hK.out _ _ ⟨H8.out.cs.bx.c0, H8.out.cs.bx.c1⟩ (fun hHeld8 => ?_)
    clear hK K
    try simp only [Act.put, List.setIfInBounds_toArray, List.set_cons_zero, List.set_cons_succ]
    refine wpAnyH_take (i := 8) (oi := { dst := some 30, op := Op.build 24 #[(0, Operand.tmp 25), (1, Operand.tmp 29)], type := 24, pos := "ref.go:182", after := #[{ on := 3, ground := Ground.data }, { on := 7, ground := Ground.data }], guard := none }) (v := .agg #[.slice a1 (wto V s).length k1, .slice a2 (wto L s).length k2]) rfl (by kernel_rfl) (by kernel_rfl) (by kernel_rfl) (fun _ _ _ h => h) (Or.inl ⟨by rfl, ?_⟩) hHeld8 ?_
    · (intro w hSw; (try dsimp only at hSw); go_simp)
    try simp only [Act.put, List.setIfInBounds_toArray, List.set_cons_zero, List.set_cons_succ]
    have HQ := hidOf BQ8.out
    have q0 : z8.cell? ⟨w2.heap.size, 0, none⟩ = _ := HQ.out.c0
    have q1 : z8.cell? ⟨w2.heap.size, 1, none⟩ = _ := HQ.out.c1
    have q2 : ∀ j, z8.frozen? ⟨w2.heap.size, j, none⟩ = false := HQ.out.fr
    have q3 : w2.heap.size < z8.heap.size := HQ.out.lt
    have HF := hidOf (H8.out.setQ HQ.out (by exact HX.out.rs.lt) (.slice a1 (wto V s).length k1) (.slice a2 (wto L s).length k2))
    have HFQ := hidOf (HQ.out.set (.slice a1 (wto V s).length k1) (.slice a2 (wto L s).length k2))
    have HI1 := hidOf (RA8.out.ints.setOther HQ.out (.slice a1 (wto V s).length k1) (.slice a2 (wto L s).length k2))
    have HI2 := hidOf (R8.out.ints.setOther HQ.out (.slice a1 (wto V s).length k1) (.slice a2 (wto L s).length k2))
    refine wpAnyH_ready (rs := [10]) (by kernel_rfl) (by simp) ?_
    refine AllReadyH.cons (o := { dst := none, op := Op.store 24 (Operand.tmp 8) (Operand.tmp 30), type := 0, pos := "ref.go:182", after := #[{ on := 9, ground := Ground.data }, { on := 8, ground := Ground.data }, { on := 7, ground := Ground.chain }, { on := 0, ground := Ground.phase }, { on := 1, ground := Ground.phase }, { on := 2, ground := Ground.phase }, { on := 3, ground := Ground.phase }, { on := 4, ground := Ground.phase }, { on := 5, ground := Ground.phase }, { on := 6, ground := Ground.phase }, { on := 7, ground := Ground.phase }, { on := 8, ground := Ground.phase }, { on := 9, ground := Ground.phase }], guard := none }) rfl (fun K hK => ?_) AllReadyH.nil
    go_simp
    refine hK.out _ _ ⟨HF.out.cs.bx.c0, HF.out.cs.bx.c1⟩ (fun hLast => ?_)
    clear hK K
    try simp only [Act.put, List.setIfInBounds_toArray, List.set_cons_zero, List.set_cons_succ]
    refine wpAnyH_done (by kernel_rfl) ?_ _
    obtain ⟨zf, hzf⟩ : ∃ x, x = (z8.setCell ⟨w2.heap.size, 0, none⟩ (.slice a1 (wto V s).length k1)).setCell ⟨w2.heap.size, 1, none⟩ (.slice a2 (wto L s).length k2) := ⟨_, rfl⟩
    rw [← hzf] at HF HFQ HI1 HI2 ⊢
    clear hzf hLast q0 q1 q2 q3
    have e0 := HFQ.out.c0
    have e1 := HFQ.out.c1
    have e2 := HFQ.out.lt
    have r0 : zf.cell? ⟨w.heap.size + 1, 0, none⟩ = _ := HF.out.rs.c0
    have r1 : zf.cell? ⟨w.heap.size + 1, 1, none⟩ = _ := HF.out.rs.c1
    have r2 : ∀ j, zf.frozen? ⟨w.heap.size + 1, j, none⟩ = false := HF.out.rs.fr
    have r3 : w.heap.size + 1 < zf.heap.size := HF.out.rs.lt
    clear c0 c1
    have hwl := HWL.out
    go_wp2
    exact bodyPost_ret (results_bx Try.results30 _ _ (w.heap.size + 1) _ _ (.int .i64 0) rfl rfl (HF.out.rs.set _ _)) rfl ⟨a1, k1, a2, k2, rfl, HI1.out.setOther HF.out.rs _ _, HI2.out.setOther HF.out.rs _ _, HF.out.set _ _⟩
end Go.Proofs.Yteaohmlbioooaaa
