/- does: a deed, of both logs. -/
import Derived.Test.YtdkmlgkljhhokaaRfc
namespace Go.Proofs.Ytdkmlgkljhhokaa
open Go.RowKit

/- both logs in memory, apart -/
structure TwR (w0 w : World) (p q : Nat) (M N : Lg) (v u : Value) : Prop where
  c : LgR w0 w 72 p M v
  r : LgR w0 w 69 q N u
  ap : ∀ k, v.ownBlock = some k → u.ownBlock ≠ some k
  bel : Below w0.heap.size w0 w
section
variable {w0 w w' : World} {p q : Nat} {M N M' N' : Lg} {v u v' u' : Value}
theorem TwR.w0le (h : TwR w0 w p q M N v u) : w0.heap.size ≤ w.heap.size := h.bel.size
theorem TwR.pq (h : TwR w0 w p q M N v u) : q ≠ p := fun e => by
  have h1 := h.c.blk
  rw [← e, h.r.blk] at h1
  have h2 := Option.some.inj h1
  injection h2 with _ h3
  exact absurd h3 (by decide)
theorem TwR.below (h : TwR w0 w p q M N v u) (hb : Below w.heap.size w w') : TwR w0 w' p q M N v u := ⟨h.c.below hb, h.r.below hb, h.ap, h.bel.trans (hb.mono h.bel.size)⟩
theorem LgR.olt {ty : TypeId} (h : LgR w0 w ty p M v) {k : Nat} (hk : v.ownBlock = some k) : w0.heap.size ≤ k ∧ k < w.heap.size := by
  obtain ⟨a, cur, hc⟩ := h.own.blk hk
  exact ⟨a, heap_lt hc⟩
theorem TwR.notP (h : TwR w0 w p q M N v u) {k : Nat} (hk : w.heap.size ≤ k) : ¬ Sp p v k := fun e => by
  rcases e with e | e
  · have := heap_lt h.c.blk; omega
  · have := h.c.olt e; omega
theorem TwR.code (h : TwR w0 w p q M N v u) (hl : LgR w0 w' 72 p M' v') (hc : Chg w w' (Sp p v)) (hn : Nx w v v') : TwR w0 w' p q M' N v' u := by
  have hk : Kp w0 w w' := hc.kp h.w0le (fun k hk e => by
    rcases e with e | e
    · rw [e]; exact ⟨h.c.lo, _, 72, (0, 0), h.c.blk, .inr (.inl rfl)⟩
    · obtain ⟨a, cur, hb⟩ := h.c.own.blk e; exact ⟨a, cur, 51, (0, 0), hb, .inl rfl⟩)
  have hq : ¬ Sp p v q := fun e => by
    rcases e with e | e
    · exact h.pq e
    · obtain ⟨_, cur, hb⟩ := h.c.own.blk e; rw [h.r.blk] at hb; cases hb
  have hu : ∀ k, u.ownBlock = some k → ¬ Sp p v k := fun k hk e => by
    rcases e with e | e
    · obtain ⟨_, cur, hb⟩ := h.r.own.blk hk; rw [e, h.c.blk] at hb; cases hb
    · exact h.ap k e hk
  refine ⟨hl, ⟨(hc.block q (heap_lt h.r.blk) hq).trans h.r.blk, h.r.lo, h.r.own.kept hk (fun b e => hc.block b (h.r.olt e).2 (hu b e)), h.r.wf, h.r.len⟩, fun k hk e => ?_, h.bel.trans (hc.below h.w0le (fun k e => ?_))⟩
  · rcases hn k hk with e2 | e2
    · exact h.ap k e2 e
    · have := (h.r.olt e).2; omega
  · rcases e with e | e
    · rw [e]; exact h.c.lo
    · exact (h.c.olt e).1
theorem TwR.ref (h : TwR w0 w p q M N v u) (hl : LgR w0 w' 69 q N' u') (hc : Chg w w' (fun k => k = q)) (hn : Nx w u u') : TwR w0 w' p q M N' v u' := by
  have hk : Kp w0 w w' := hc.kp h.w0le (fun k hk e => by rw [e]; exact ⟨h.r.lo, _, 69, (0, 0), h.r.blk, .inr (.inr rfl)⟩)
  refine ⟨⟨(hc.block p (heap_lt h.c.blk) (fun e => h.pq e.symm)).trans h.c.blk, h.c.lo, h.c.own.kept hk (fun b e => hc.block b (h.c.olt e).2 (fun e2 => ?_)), h.c.wf, h.c.len⟩, hl, fun k hk e => ?_, h.bel.trans (hc.below h.w0le (fun k e => by rw [e]; exact h.r.lo))⟩
  · obtain ⟨_, cur, hb⟩ := h.c.own.blk e
    rw [e2, h.r.blk] at hb
    cases hb
  · rcases hn k e with e2 | e2
    · exact h.ap k hk e2
    · have := (h.c.olt hk).2; omega
end
theorem TwR.notQ {w0 w : World} {p q : Nat} {M N : Lg} {v u : Value} (h : TwR w0 w p q M N v u) : w.heap.size ≠ q := fun e => by have := heap_lt h.r.blk; omega
theorem box30 {w : World} {b : Nat} {x0 x1 x2 x3 x4 : Value} (h : w.heap[b]? = some (.cells #[x0, x1, x2, x3, x4] 30 (0, 0))) : w.cell? ⟨b, 0, none⟩ = some x0 ∧ w.cell? ⟨b, 1, none⟩ = some x1 ∧ w.cell? ⟨b, 2, none⟩ = some x2 ∧ w.cell? ⟨b, 3, none⟩ = some x3 ∧ w.cell? ⟨b, 4, none⟩ = some x4 ∧ b < w.heap.size := by
  refine ⟨?_, ?_, ?_, ?_, ?_, heap_lt h⟩ <;> rw [cell_of_row _ _ _ _ 30 (0, 0) h] <;> rfl
def TwL (w0 w : World) (p q : Nat) (M : Lg) : Prop := ∃ v u, TwR w0 w p q M M v u
/- what a deed makes of a log -/
def stepL (kd ix tm op : Int) (D : List En) (M : Lg) : Lg := if pickZ kd 6 = 0 then putM M tm op 0 else if pickZ kd 6 = 1 then accM M ix tm D else if pickZ kd 6 = 2 then compM M ix else M
theorem sliceM_len (M : Lg) (f m : Int) : (sliceM M f m).length ≤ M.L.length := by
  unfold sliceM
  split
  · simp
  · rw [List.length_take, List.length_drop]; omega
theorem doe_x {w0 w : World} {p q : Nat} {M N : Lg} {v u : Value} (h : TwR w0 w p q M N v u) {x : Value} {D : List En} (hx : EsR w0 w0 x D) : (D ≠ [] → x.ownBlock ≠ some p) ∧ (D ≠ [] → x.ownBlock ≠ some q) ∧ (D ≠ [] → ∀ b, x.ownBlock = some b → v.ownBlock ≠ some b) ∧ EsR w0 w x D := by
  have hb : D ≠ [] → ∀ b, x.ownBlock = some b → b < w0.heap.size := fun hd b hb => by
    rcases hx with ⟨_, e⟩ | ⟨b', off, cap, C, rfl, _, h3⟩
    · exact absurd e hd
    · have e2 : b' = b := Option.some.inj hb
      rw [← e2]; exact h3.blt hd
  refine ⟨fun hd e => ?_, fun hd e => ?_, fun hd b e1 e2 => ?_, hx.below (Nat.le_refl _) h.bel⟩
  · have := hb hd p e; have := h.c.lo; omega
  · have := hb hd q e; have := h.r.lo; omega
  · have := hb hd b e1; have := (h.c.olt e2).1; omega
section
variable {w0 w : World} {p q : Nat} {M : Lg}
def DoP (w0 : World) (p q : Nat) (M' : Lg) (e : Ending) (w' : World) : Prop := e = .returned (.bool true) ∧ TwL w0 w' p q M'
set_option maxHeartbeats 8000000 in
set_option maxRecDepth 100000 in
theorem does_any (h : TwL w0 w p q M) (kd ix tm op : Int) (xa : Option Addr) (xc : Nat) (D : List En) (hx : EsR w0 w0 (.slice xa D.length xc) D) (hk : i64 kd) (hlen : M.L.length + D.length + 1 ≤ 33554432) : Calls Try.prog 11 #[.pointer (some ⟨p, 0, none⟩), .pointer (some ⟨q, 0, none⟩), .agg #[.int .i64 kd, .int .i64 ix, .int .i64 tm, .int .i64 op, .slice xa D.length xc]] w (DoP w0 p q (stepL kd ix tm op D M)) := by
  obtain ⟨v, u, h⟩ := h
  have HX := hidOf hx
  have HPK := hidOf (fun w' : World => pick_any kd 6 w' hk (by decide))
  have hpr := pickZ_range kd (show (0 : Int) < 6 by decide)
  have HST : Hid (stepL kd ix tm op D M = if pickZ kd 6 = 0 then putM M tm op 0 else if pickZ kd 6 = 1 then accM M ix tm D else if pickZ kd 6 = 2 then compM M ix else M) := hidOf rfl
  have HLN := hidOf hlen
  have HBX : Hid ((w.alloc (.cells #[.int .i64 kd, .int .i64 ix, .int .i64 tm, .int .i64 op, .slice xa D.length xc] 30)).heap[w.heap.size]? = some (.cells #[.int .i64 kd, .int .i64 ix, .int .i64 tm, .int .i64 op, .slice xa D.length xc] 30 (0, 0))) := hidOf (heap_alloc_new w _)
  have HT := hidOf (h.below (below1 w (.cells #[.int .i64 kd, .int .i64 ix, .int .i64 tm, .int .i64 op, .slice xa D.length xc] 30)))
  have HNP : Hid (¬ Sp p v w.heap.size) := hidOf (h.notP (Nat.le_refl _))
  have HNQ : Hid (w.heap.size ≠ q) := hidOf h.notQ
  clear h hx hk hlen
  generalize pickZ kd 6 = pk at *
  obtain ⟨n, hn⟩ : ∃ n, n = D.length := ⟨_, rfl⟩
  have HN := hidOf hn
  rw [← hn] at HBX HT HX ⊢
  clear hn
  obtain ⟨X, hX⟩ : ∃ X, X = w.alloc (.cells #[.int .i64 kd, .int .i64 ix, .int .i64 tm, .int .i64 op, .slice xa n xc] 30) := ⟨_, rfl⟩
  have HXE := hidOf hX
  rw [← hX] at HBX HT
  clear hX
  obtain ⟨x0, x1, x2, x3, x4, xl⟩ := box30 HBX.out
  by_cases h0 : pk = 0
  · subst h0
    have HS : Hid (stepL kd ix tm op D M = putM M tm op 0) := hidOf (by rw [HST.out, if_pos rfl])
    rw [HS.out]
    have HPU := hidOf (put_any HT.out.c tm op (by have := HLN.out; omega))
    have HRU := hidOf (fun (w3 : World) (v3 : Value) (M3 : Lg) (ht : TwR w0 w3 p q M3 M v3 u) => rput_any ht.r tm op (by have := HLN.out; omega))
    generalize putE M tm = pe at *
    generalize putX M tm op 0 = px at *
    go_enter Try.func11, Try.ntmps11
    go_wp2_with (first
      | (go_at_call 15; rw [← HXE.out]; refine (HPK.out _).mono ?_; rintro e w1 ⟨rfl, hw1⟩; subst w1)
      | (go_at_call 14; refine HPU.out.mono ?_; rintro e w3 ⟨k3, v3, rfl, e3, l3, g3, n3⟩; have HT3 := hidOf (HT.out.code l3 g3 n3); have HE3 := hidOf e3; have hb3 := (g3.block _ xl HNP.out).trans HBX.out; have HBX3 := hidOf hb3; clear x0 x1 x2 x3 x4 l3 g3 n3 hb3 e3)
      | (refine wpList_store_rowF rfl 51 (.tmp 7) (.tmp 33) rfl w3.heap.size k3.toArray rfl rfl 51 Zc.toArray (box_new w3) (by simpa using en_info HE3.out) (by have := HE3.out.len; simp [Zc, this]) (all_oneCell_toArray HE3.out.one) ?_; intro w4 hw4; have hq := box_set hw4.out; have HT4 := hidOf (HT3.out.below hq.1); have HK4 := hidOf hq.2; have HE4 := hidOf (HE3.out.kp (Kp.bel HT3.out.w0le hq.1)); obtain ⟨x0, x1, x2, x3, x4, xl4⟩ := box30 ((hq.1.block _ (heap_lt HBX3.out)).trans HBX3.out); clear hq hw4)
      | (go_at_call 24; refine (HRU.out _ _ _ HT4.out).mono ?_; rintro e w5 ⟨k5, u5, rfl, e5, l5, g5, n5⟩; have HT5 := hidOf (HT4.out.ref l5 g5 n5); have HE5 := hidOf e5; have HK5 : Hid (Bx w5 w3.heap.size k3) := hidOf ⟨(g5.block _ (heap_lt HK4.out.blk) (fun e => by have h9 := heap_lt HT3.out.r.blk; omega)).trans HK4.out.blk⟩; have HE35 := hidOf (HE4.out.kp (g5.kp HT4.out.w0le (fun k hk e => by rw [e]; exact ⟨HT4.out.r.lo, _, 69, (0, 0), HT4.out.r.blk, .inr (.inr rfl)⟩))); clear e5 l5 g5 n5)
      | (refine wpList_store_rowF rfl 51 (.tmp 9) (.tmp 43) rfl w5.heap.size k5.toArray rfl rfl 51 Zc.toArray (box_new w5) (by simpa using en_info HE5.out) (by have := HE5.out.len; simp [Zc, this]) (all_oneCell_toArray HE5.out.one) ?_; intro w6 hw6; have hq := box_set hw6.out; have HT6 := hidOf (HT5.out.below hq.1); have HK6 := hidOf hq.2; have HK56 : Hid (Bx w6 w3.heap.size k3) := hidOf ⟨(hq.1.block _ (heap_lt HK5.out.blk)).trans HK5.out.blk⟩; have HE6 := hidOf (HE5.out.kp (Kp.bel HT5.out.w0le hq.1)); have HE36 := hidOf (HE35.out.kp (Kp.bel HT5.out.w0le hq.1)); clear hq hw6)
      | (refine wpList_load_row rfl 51 (.tmp 7) rfl w3.heap.size rfl 51 k3.toArray (0, 0) _ HK56.out.blk Try.underlying51 rfl (by simpa using en_info HE3.out) ?_)
      | (refine wpList_load_row rfl 51 (.tmp 9) rfl w5.heap.size rfl 51 k5.toArray (0, 0) _ HK6.out.blk Try.underlying51 rfl (by simpa using en_info HE5.out) ?_)
      | (go_at_call 25; have hS := entry_any w0 w6 k3 k5 px px HE36.out HE6.out; rw [show decide (px = px) = true by simp] at hS; refine hS.mono ?_; rintro e w7 ⟨rfl, b7⟩; have HT7 := hidOf (HT6.out.below b7); clear b7 hS))
    go_ret
    exact ⟨by simp, _, _, HT7.out⟩
  by_cases h1 : pk = 1
  · subst h1
    have HS : Hid (stepL kd ix tm op D M = accM M ix tm D) := hidOf (by rw [HST.out, if_neg (by decide), if_pos rfl])
    rw [HS.out]
    obtain ⟨z1, z2, z3, z4⟩ := doe_x HT.out (by rw [HN.out] at HX; exact HX.out)
    have HAC := hidOf (accept_any HT.out.c ix tm xa xc D z4 z1 z3 (by have := HLN.out; omega))
    have HRA := hidOf (fun (w3 : World) (v3 : Value) (M3 : Lg) (ht : TwR w0 w3 p q M3 M v3 u) => raccept_any ht.r ix tm xa xc D (doe_x ht (by rw [HN.out] at HX; exact HX.out)).2.2.2 (doe_x ht (by rw [HN.out] at HX; exact HX.out)).2.1 (by have := HLN.out; omega))
    rw [← HN.out] at HAC HRA
    clear z1 z2 z3 z4
    obtain ⟨AX, hAX⟩ : ∃ a, a = accX M ix tm D := ⟨_, rfl⟩
    obtain ⟨AB, hAB⟩ : ∃ a, a = accB M ix tm D := ⟨_, rfl⟩
    rw [← hAX, ← hAB] at HAC HRA
    clear hAX hAB
    go_enter Try.func11, Try.ntmps11
    go_wp2_with (first
      | (go_at_call 15; rw [← HXE.out]; refine (HPK.out _).mono ?_; rintro e w1 ⟨rfl, hw1⟩; subst w1)
      | (go_at_call 18; refine HAC.out.mono ?_; rintro e w3 ⟨v3, rfl, l3, g3, n3⟩; have HT3 := hidOf (HT.out.code l3 g3 n3); have hb3 := (g3.block _ xl HNP.out).trans HBX.out; clear x0 x1 x2 x3 x4; obtain ⟨x0, x1, x2, x3, x4, xl3⟩ := box30 hb3; clear l3 g3 n3 hb3)
      | (go_at_call 26; refine (HRA.out _ _ _ HT3.out).mono ?_; rintro e w4 ⟨u4, rfl, l4, g4, n4⟩; have HT4 := hidOf (HT3.out.ref l4 g4 n4); clear l4 g4 n4))
    go_ret
    exact ⟨by simp, _, _, HT4.out⟩
  by_cases h2 : pk = 2
  · subst h2
    have HS : Hid (stepL kd ix tm op D M = compM M ix) := hidOf (by rw [HST.out, if_neg (by decide), if_neg (by decide), if_pos rfl])
    rw [HS.out]
    have HTd := hidOf (HT.out.below (bdrew X))
    go_enter Try.func11, Try.ntmps11
    go_upto_region 12 with (go_at_call 15; rw [← HXE.out]; refine (HPK.out _).mono ?_; rintro e w1 ⟨rfl, hw1⟩; subst w1)
    refine wp_region_held_drew (S := fun wz : World => wz.heap[w.heap.size]? = some (.cells #[.int .i64 kd, .int .i64 ix, .int .i64 tm, .int .i64 op, .slice xa n xc] 30 (0, 0))) (by kernel_rfl) HBX.out (fun hHeld => ?_)
    refine wpAnyH_take (i := 0) (oi := { dst := some 88, op := Op.move (Operand.tmp 0), type := 23, pos := "law.go:69", after := #[], guard := none }) (v := .pointer (some ⟨p, 0, none⟩)) rfl (by kernel_rfl) (by kernel_rfl) (by kernel_rfl) (fun _ _ _ h => h) (Or.inl ⟨by rfl, ?_⟩) hHeld ?_
    · (intro w hSw; (try dsimp only at hSw); go_simp)
    try simp only [Act.put, List.setIfInBounds_toArray, List.set_cons_zero, List.set_cons_succ]
    refine wpAnyH_take (i := 1) (oi := { dst := some 89, op := Op.fieldAddr 30 (Operand.tmp 5) 1, type := 0, pos := "law.go:69", after := #[], guard := none }) (v := .pointer (some ⟨w.heap.size, 1, none⟩)) rfl (by kernel_rfl) (by kernel_rfl) (by kernel_rfl) (fun _ _ _ h => h) (Or.inl ⟨by rfl, ?_⟩) hHeld ?_
    · (intro w hSw; (try dsimp only at hSw); go_simp)
    try simp only [Act.put, List.setIfInBounds_toArray, List.set_cons_zero, List.set_cons_succ]
    refine wpAnyH_take (i := 2) (oi := { dst := some 90, op := Op.load 3 (Operand.tmp 89), type := 3, pos := "law.go:69", after := #[{ on := 1, ground := Ground.data }], guard := none }) (v := .int .i64 ix) rfl (by kernel_rfl) (by kernel_rfl) (by kernel_rfl) (fun _ _ _ h => h) (Or.inl ⟨by rfl, ?_⟩) hHeld ?_
    · (intro w hSw; obtain ⟨s0, s1, s2, s3, s4, sl⟩ := box30 hSw; go_simp)
    try simp only [Act.put, List.setIfInBounds_toArray, List.set_cons_zero, List.set_cons_succ]
    refine wpAnyH_take (i := 4) (oi := { dst := some 92, op := Op.move (Operand.tmp 1), type := 25, pos := "law.go:69", after := #[], guard := none }) (v := .pointer (some ⟨q, 0, none⟩)) rfl (by kernel_rfl) (by kernel_rfl) (by kernel_rfl) (fun _ _ _ h => h) (Or.inl ⟨by rfl, ?_⟩) hHeld ?_
    · (intro w hSw; (try dsimp only at hSw); go_simp)
    try simp only [Act.put, List.setIfInBounds_toArray, List.set_cons_zero, List.set_cons_succ]
    refine wpAnyH_take (i := 5) (oi := { dst := some 93, op := Op.fieldAddr 30 (Operand.tmp 5) 1, type := 0, pos := "law.go:69", after := #[], guard := none }) (v := .pointer (some ⟨w.heap.size, 1, none⟩)) rfl (by kernel_rfl) (by kernel_rfl) (by kernel_rfl) (fun _ _ _ h => h) (Or.inl ⟨by rfl, ?_⟩) hHeld ?_
    · (intro w hSw; (try dsimp only at hSw); go_simp)
    try simp only [Act.put, List.setIfInBounds_toArray, List.set_cons_zero, List.set_cons_succ]
    refine wpAnyH_take (i := 6) (oi := { dst := some 94, op := Op.load 3 (Operand.tmp 93), type := 3, pos := "law.go:69", after := #[{ on := 5, ground := Ground.data }], guard := none }) (v := .int .i64 ix) rfl (by kernel_rfl) (by kernel_rfl) (by kernel_rfl) (fun _ _ _ h => h) (Or.inl ⟨by rfl, ?_⟩) hHeld ?_
    · (intro w hSw; obtain ⟨s0, s1, s2, s3, s4, sl⟩ := box30 hSw; go_simp)
    try simp only [Act.put, List.setIfInBounds_toArray, List.set_cons_zero, List.set_cons_succ]
    refine wpAnyH_ready (rs := [3]) (by kernel_rfl) (by simp) ?_
    refine AllReadyH.cons (o := { dst := some 91, op := Op.call { callee := Callee.value (Operand.func 22), args := #[Operand.tmp 88, Operand.tmp 90], argTypes := #[23, 3] }, type := 52, pos := "law.go:69", after := #[{ on := 0, ground := Ground.data }, { on := 2, ground := Ground.data }], guard := none }) rfl (fun K hK => ?_) AllReadyH.nil
    go_simp
    refine (compact_any HTd.out.c ix).mono ?_
    rintro en w3 ⟨v3, rfl, l3, g3, n3⟩
    have HT3 := hidOf (HTd.out.code l3 g3 n3)
    have HBX3 : Hid (w3.heap[w.heap.size]? = some (.cells #[.int .i64 kd, .int .i64 ix, .int .i64 tm, .int .i64 op, .slice xa n xc] 30 (0, 0))) := hidOf ((g3.block _ xl HNP.out).trans HBX.out)
    clear l3 g3 n3
    refine hK.out _ _ HBX3.out (fun hHeld1 => ?_)
    clear hK K
    try simp only [Act.put, List.setIfInBounds_toArray, List.set_cons_zero, List.set_cons_succ]
    refine wpAnyH_ready (rs := [7]) (by kernel_rfl) (by simp) ?_
    refine AllReadyH.cons (o := { dst := some 95, op := Op.call { callee := Callee.value (Operand.func 27), args := #[Operand.tmp 92, Operand.tmp 94], argTypes := #[25, 3] }, type := 52, pos := "law.go:69", after := #[{ on := 4, ground := Ground.data }, { on := 6, ground := Ground.data }, { on := 3, ground := Ground.chain }], guard := none }) rfl (fun K hK => ?_) AllReadyH.nil
    go_simp
    refine (rcompact_any HT3.out.r ix).mono ?_
    rintro en w4 ⟨u4, rfl, l4, g4, n4⟩
    have HT4 := hidOf (HT3.out.ref l4 g4 n4)
    have HBX4 : Hid (w4.heap[w.heap.size]? = some (.cells #[.int .i64 kd, .int .i64 ix, .int .i64 tm, .int .i64 op, .slice xa n xc] 30 (0, 0))) := hidOf ((g4.block _ (heap_lt HBX3.out) HNQ.out).trans HBX3.out)
    clear l4 g4 n4
    refine hK.out _ _ HBX4.out (fun hHeld2 => ?_)
    clear hK K
    try simp only [Act.put, List.setIfInBounds_toArray, List.set_cons_zero, List.set_cons_succ]
    refine wpAnyH_take (i := 8) (oi := { dst := some 96, op := Op.binOp BinOp.eql 52 (Operand.tmp 91) (Operand.tmp 95) 52, type := 4, pos := "law.go:69", after := #[{ on := 3, ground := Ground.data }, { on := 7, ground := Ground.data }], guard := none }) (v := .bool true) rfl (by kernel_rfl) (by kernel_rfl) (by kernel_rfl) (fun _ _ _ h => h) (Or.inl ⟨by rfl, ?_⟩) hHeld2 ?_
    · (intro w hSw; (try dsimp only at hSw); go_simp)
    try simp only [Act.put, List.setIfInBounds_toArray, List.set_cons_zero, List.set_cons_succ]
    refine wpAnyH_take (i := 9) (oi := { dst := some 6, op := Op.assign (Operand.tmp 96), type := 4, pos := "law.go:69", after := #[{ on := 8, ground := Ground.data }, { on := 7, ground := Ground.chain }, { on := 0, ground := Ground.phase }, { on := 1, ground := Ground.phase }, { on := 2, ground := Ground.phase }, { on := 3, ground := Ground.phase }, { on := 4, ground := Ground.phase }, { on := 5, ground := Ground.phase }, { on := 6, ground := Ground.phase }, { on := 7, ground := Ground.phase }, { on := 8, ground := Ground.phase }], guard := none }) (v := .bool true) rfl (by kernel_rfl) (by kernel_rfl) (by kernel_rfl) (fun _ _ _ h => h) (Or.inl ⟨by rfl, ?_⟩) hHeld2 ?_
    · (intro w hSw; (try dsimp only at hSw); go_simp)
    try simp only [Act.put, List.setIfInBounds_toArray, List.set_cons_zero, List.set_cons_succ]
    refine wpAnyH_done (by kernel_rfl) ?_ _
    go_wp2
    go_ret
    exact ⟨rfl, _, _, HT4.out⟩
  have HS : Hid (stepL kd ix tm op D M = M) := hidOf (by rw [HST.out, if_neg h0, if_neg h1, if_neg h2])
  rw [HS.out]
  have b0 : (pk == 0) = false := beq_false_of_ne h0
  have b1 : (pk == 1) = false := beq_false_of_ne h1
  have b2 : (pk == 2) = false := beq_false_of_ne h2
  by_cases h3 : pk = 3
  · subst h3
    have HTE := hidOf (term_any HT.out.c ix)
    have HRT := hidOf (fun (w3 : World) (v3 : Value) (M3 : Lg) (ht : TwR w0 w3 p q M3 M v3 u) => rterm_any ht.r ix)
    generalize termT M ix = tt at *
    generalize termE M ix = te at *
    go_enter Try.func11, Try.ntmps11
    go_wp2_with (first
      | (go_at_call 15; rw [← HXE.out]; refine (HPK.out _).mono ?_; rintro e w1 ⟨rfl, hw1⟩; subst w1)
      | (go_at_call 17; refine HTE.out.mono ?_; rintro e w3 ⟨rfl, hd⟩; have b3 := hd.bel; have HT3 := hidOf (HT.out.below b3); have hb3 := (b3.block _ xl).trans HBX.out; clear x0 x1 x2 x3 x4 hd; obtain ⟨x0, x1, x2, x3, x4, xl3⟩ := box30 hb3; clear b3 hb3)
      | (go_at_call 28; refine (HRT.out _ _ _ HT3.out).mono ?_; rintro e w4 ⟨rfl, hw4⟩; subst w4))
    go_ret
    exact ⟨by simp, _, _, HT3.out⟩
  have b3 : (pk == 3) = false := beq_false_of_ne h3
  by_cases h4 : pk = 4
  · subst h4
    have HTd := hidOf (HT.out.below (bdrew X))
    have HSL : Hid ((sliceM M ix tm).length ≤ 67108864) := hidOf (by have := sliceM_len M ix tm; have := HLN.out; omega)
    go_enter Try.func11, Try.ntmps11
    go_upto_region 18 with (go_at_call 15; rw [← HXE.out]; refine (HPK.out _).mono ?_; rintro e w1 ⟨rfl, hw1⟩; subst w1)
    refine wp_region_held_drew (S := fun wz : World => wz.heap[w.heap.size]? = some (.cells #[.int .i64 kd, .int .i64 ix, .int .i64 tm, .int .i64 op, .slice xa n xc] 30 (0, 0))) (by kernel_rfl) HBX.out (fun hHeld => ?_)
    refine wpAnyH_take (i := 0) (oi := { dst := some 123, op := Op.move (Operand.tmp 0), type := 23, pos := "law.go:75", after := #[], guard := none }) (v := .pointer (some ⟨p, 0, none⟩)) rfl (by kernel_rfl) (by kernel_rfl) (by kernel_rfl) (fun _ _ _ h => h) (Or.inl ⟨by rfl, ?_⟩) hHeld ?_
    · (intro w hSw; (try dsimp only at hSw); go_simp)
    try simp only [Act.put, List.setIfInBounds_toArray, List.set_cons_zero, List.set_cons_succ]
    refine wpAnyH_take (i := 1) (oi := { dst := some 124, op := Op.fieldAddr 30 (Operand.tmp 5) 1, type := 0, pos := "law.go:75", after := #[], guard := none }) (v := .pointer (some ⟨w.heap.size, 1, none⟩)) rfl (by kernel_rfl) (by kernel_rfl) (by kernel_rfl) (fun _ _ _ h => h) (Or.inl ⟨by rfl, ?_⟩) hHeld ?_
    · (intro w hSw; (try dsimp only at hSw); go_simp)
    try simp only [Act.put, List.setIfInBounds_toArray, List.set_cons_zero, List.set_cons_succ]
    refine wpAnyH_take (i := 2) (oi := { dst := some 125, op := Op.load 3 (Operand.tmp 124), type := 3, pos := "law.go:75", after := #[{ on := 1, ground := Ground.data }], guard := none }) (v := .int .i64 ix) rfl (by kernel_rfl) (by kernel_rfl) (by kernel_rfl) (fun _ _ _ h => h) (Or.inl ⟨by rfl, ?_⟩) hHeld ?_
    · (intro w hSw; obtain ⟨s0, s1, s2, s3, s4, sl⟩ := box30 hSw; go_simp)
    try simp only [Act.put, List.setIfInBounds_toArray, List.set_cons_zero, List.set_cons_succ]
    refine wpAnyH_take (i := 3) (oi := { dst := some 126, op := Op.fieldAddr 30 (Operand.tmp 5) 2, type := 0, pos := "law.go:75", after := #[], guard := none }) (v := .pointer (some ⟨w.heap.size, 2, none⟩)) rfl (by kernel_rfl) (by kernel_rfl) (by kernel_rfl) (fun _ _ _ h => h) (Or.inl ⟨by rfl, ?_⟩) hHeld ?_
    · (intro w hSw; (try dsimp only at hSw); go_simp)
    try simp only [Act.put, List.setIfInBounds_toArray, List.set_cons_zero, List.set_cons_succ]
    refine wpAnyH_take (i := 4) (oi := { dst := some 127, op := Op.load 3 (Operand.tmp 126), type := 3, pos := "law.go:75", after := #[{ on := 3, ground := Ground.data }], guard := none }) (v := .int .i64 tm) rfl (by kernel_rfl) (by kernel_rfl) (by kernel_rfl) (fun _ _ _ h => h) (Or.inl ⟨by rfl, ?_⟩) hHeld ?_
    · (intro w hSw; obtain ⟨s0, s1, s2, s3, s4, sl⟩ := box30 hSw; go_simp)
    try simp only [Act.put, List.setIfInBounds_toArray, List.set_cons_zero, List.set_cons_succ]
    refine wpAnyH_take (i := 6) (oi := { dst := some 129, op := Op.move (Operand.tmp 1), type := 25, pos := "law.go:75", after := #[], guard := none }) (v := .pointer (some ⟨q, 0, none⟩)) rfl (by kernel_rfl) (by kernel_rfl) (by kernel_rfl) (fun _ _ _ h => h) (Or.inl ⟨by rfl, ?_⟩) hHeld ?_
    · (intro w hSw; (try dsimp only at hSw); go_simp)
    try simp only [Act.put, List.setIfInBounds_toArray, List.set_cons_zero, List.set_cons_succ]
    refine wpAnyH_take (i := 7) (oi := { dst := some 130, op := Op.fieldAddr 30 (Operand.tmp 5) 1, type := 0, pos := "law.go:75", after := #[], guard := none }) (v := .pointer (some ⟨w.heap.size, 1, none⟩)) rfl (by kernel_rfl) (by kernel_rfl) (by kernel_rfl) (fun _ _ _ h => h) (Or.inl ⟨by rfl, ?_⟩) hHeld ?_
    · (intro w hSw; (try dsimp only at hSw); go_simp)
    try simp only [Act.put, List.setIfInBounds_toArray, List.set_cons_zero, List.set_cons_succ]
    refine wpAnyH_take (i := 8) (oi := { dst := some 131, op := Op.load 3 (Operand.tmp 130), type := 3, pos := "law.go:75", after := #[{ on := 7, ground := Ground.data }], guard := none }) (v := .int .i64 ix) rfl (by kernel_rfl) (by kernel_rfl) (by kernel_rfl) (fun _ _ _ h => h) (Or.inl ⟨by rfl, ?_⟩) hHeld ?_
    · (intro w hSw; obtain ⟨s0, s1, s2, s3, s4, sl⟩ := box30 hSw; go_simp)
    try simp only [Act.put, List.setIfInBounds_toArray, List.set_cons_zero, List.set_cons_succ]
    refine wpAnyH_take (i := 9) (oi := { dst := some 132, op := Op.fieldAddr 30 (Operand.tmp 5) 2, type := 0, pos := "law.go:75", after := #[], guard := none }) (v := .pointer (some ⟨w.heap.size, 2, none⟩)) rfl (by kernel_rfl) (by kernel_rfl) (by kernel_rfl) (fun _ _ _ h => h) (Or.inl ⟨by rfl, ?_⟩) hHeld ?_
    · (intro w hSw; (try dsimp only at hSw); go_simp)
    try simp only [Act.put, List.setIfInBounds_toArray, List.set_cons_zero, List.set_cons_succ]
    refine wpAnyH_take (i := 10) (oi := { dst := some 133, op := Op.load 3 (Operand.tmp 132), type := 3, pos := "law.go:75", after := #[{ on := 9, ground := Ground.data }], guard := none }) (v := .int .i64 tm) rfl (by kernel_rfl) (by kernel_rfl) (by kernel_rfl) (fun _ _ _ h => h) (Or.inl ⟨by rfl, ?_⟩) hHeld ?_
    · (intro w hSw; obtain ⟨s0, s1, s2, s3, s4, sl⟩ := box30 hSw; go_simp)
    try simp only [Act.put, List.setIfInBounds_toArray, List.set_cons_zero, List.set_cons_succ]
    refine wpAnyH_ready (rs := [5]) (by kernel_rfl) (by simp) ?_
    refine AllReadyH.cons (o := { dst := some 128, op := Op.call { callee := Callee.value (Operand.func 19), args := #[Operand.tmp 123, Operand.tmp 125, Operand.tmp 127], argTypes := #[23, 3, 3] }, type := 28, pos := "law.go:75", after := #[{ on := 0, ground := Ground.data }, { on := 2, ground := Ground.data }, { on := 4, ground := Ground.data }], guard := none }) rfl (fun K hK => ?_) AllReadyH.nil
    go_simp
    refine (slice_any HTd.out.c ix tm).mono ?_
    rintro en w3 ⟨s3, rfl, o3, b3, n3⟩
    have HT3 := hidOf (HTd.out.below b3)
    have HO3 := hidOf o3
    have HBX3 : Hid (w3.heap[w.heap.size]? = some (.cells #[.int .i64 kd, .int .i64 ix, .int .i64 tm, .int .i64 op, .slice xa n xc] 30 (0, 0))) := hidOf ((b3.block _ xl).trans HBX.out)
    clear o3 b3 n3
    refine hK.out _ _ HBX3.out (fun hHeld1 => ?_)
    clear hK K
    try simp only [Act.put, List.setIfInBounds_toArray, List.set_cons_zero, List.set_cons_succ]
    refine wpAnyH_ready (rs := [11]) (by kernel_rfl) (by simp) ?_
    refine AllReadyH.cons (o := { dst := some 134, op := Op.call { callee := Callee.value (Operand.func 29), args := #[Operand.tmp 129, Operand.tmp 131, Operand.tmp 133], argTypes := #[25, 3, 3] }, type := 28, pos := "law.go:75", after := #[{ on := 6, ground := Ground.data }, { on := 8, ground := Ground.data }, { on := 10, ground := Ground.data }, { on := 5, ground := Ground.chain }], guard := none }) rfl (fun K hK => ?_) AllReadyH.nil
    go_simp
    refine (rslice_any HT3.out.r ix tm).mono ?_
    rintro en w4 ⟨s4, rfl, o4, b4, n4⟩
    have HT4 := hidOf (HT3.out.below b4)
    have HO4 := hidOf o4
    have HO34 := hidOf (HO3.out.below HT3.out.w0le b4)
    have HBX4 : Hid (w4.heap[w.heap.size]? = some (.cells #[.int .i64 kd, .int .i64 ix, .int .i64 tm, .int .i64 op, .slice xa n xc] 30 (0, 0))) := hidOf ((b4.block _ (heap_lt HBX3.out)).trans HBX3.out)
    clear o4 b4 n4
    refine hK.out _ _ HBX4.out (fun hHeld2 => ?_)
    clear hK K
    try simp only [Act.put, List.setIfInBounds_toArray, List.set_cons_zero, List.set_cons_succ]
    refine wpAnyH_ready (rs := [12]) (by kernel_rfl) (by simp) ?_
    refine AllReadyH.cons (o := { dst := some 135, op := Op.call { callee := Callee.value (Operand.func 20), args := #[Operand.tmp 128, Operand.tmp 134], argTypes := #[28, 28] }, type := 4, pos := "law.go:75", after := #[{ on := 5, ground := Ground.data }, { on := 11, ground := Ground.data }, { on := 11, ground := Ground.chain }], guard := none }) rfl (fun K hK => ?_) AllReadyH.nil
    go_simp
    have hS := entries_any w0 w4 HT4.out.w0le s3 s4 _ _ HO34.out.es HO4.out.es ⟨HSL.out, HSL.out⟩
    rw [show decide (sliceM M ix tm = sliceM M ix tm) = true by simp] at hS
    refine hS.mono ?_
    rintro en w5 ⟨rfl, b5⟩
    have HT5 := hidOf (HT4.out.below b5)
    have HBX5 : Hid (w5.heap[w.heap.size]? = some (.cells #[.int .i64 kd, .int .i64 ix, .int .i64 tm, .int .i64 op, .slice xa n xc] 30 (0, 0))) := hidOf ((b5.block _ (heap_lt HBX4.out)).trans HBX4.out)
    clear b5 hS
    refine hK.out _ _ HBX5.out (fun hHeld3 => ?_)
    clear hK K
    try simp only [Act.put, List.setIfInBounds_toArray, List.set_cons_zero, List.set_cons_succ]
    refine wpAnyH_take (i := 13) (oi := { dst := some 6, op := Op.assign (Operand.tmp 135), type := 4, pos := "law.go:75", after := #[{ on := 12, ground := Ground.data }, { on := 12, ground := Ground.chain }, { on := 0, ground := Ground.phase }, { on := 1, ground := Ground.phase }, { on := 2, ground := Ground.phase }, { on := 3, ground := Ground.phase }, { on := 4, ground := Ground.phase }, { on := 5, ground := Ground.phase }, { on := 6, ground := Ground.phase }, { on := 7, ground := Ground.phase }, { on := 8, ground := Ground.phase }, { on := 9, ground := Ground.phase }, { on := 10, ground := Ground.phase }, { on := 11, ground := Ground.phase }, { on := 12, ground := Ground.phase }], guard := none }) (v := .bool true) rfl (by kernel_rfl) (by kernel_rfl) (by kernel_rfl) (fun _ _ _ h => h) (Or.inl ⟨by rfl, ?_⟩) hHeld3 ?_
    · (intro w hSw; (try dsimp only at hSw); go_simp)
    try simp only [Act.put, List.setIfInBounds_toArray, List.set_cons_zero, List.set_cons_succ]
    refine wpAnyH_done (by kernel_rfl) ?_ _
    go_wp2
    go_ret
    exact ⟨rfl, _, _, HT5.out⟩
  · have b4 : (pk == 4) = false := beq_false_of_ne h4
    have HTd := hidOf (HT.out.below (bdrew X))
    obtain ⟨NB, HNB⟩ : ∃ b, Hid (newerB M ix tm = b) := ⟨_, hidOf rfl⟩
    go_enter Try.func11, Try.ntmps11
    go_upto_region 19 with (go_at_call 15; rw [← HXE.out]; refine (HPK.out _).mono ?_; rintro e w1 ⟨rfl, hw1⟩; subst w1)
    refine wp_region_held_drew (S := fun wz : World => wz.heap[w.heap.size]? = some (.cells #[.int .i64 kd, .int .i64 ix, .int .i64 tm, .int .i64 op, .slice xa n xc] 30 (0, 0))) (by kernel_rfl) HBX.out (fun hHeld => ?_)
    refine wpAnyH_take (i := 0) (oi := { dst := some 136, op := Op.move (Operand.tmp 0), type := 23, pos := "law.go:77", after := #[], guard := none }) (v := .pointer (some ⟨p, 0, none⟩)) rfl (by kernel_rfl) (by kernel_rfl) (by kernel_rfl) (fun _ _ _ h => h) (Or.inl ⟨by rfl, ?_⟩) hHeld ?_
    · (intro w hSw; (try dsimp only at hSw); go_simp)
    try simp only [Act.put, List.setIfInBounds_toArray, List.set_cons_zero, List.set_cons_succ]
    refine wpAnyH_take (i := 1) (oi := { dst := some 137, op := Op.fieldAddr 30 (Operand.tmp 5) 1, type := 0, pos := "law.go:77", after := #[], guard := none }) (v := .pointer (some ⟨w.heap.size, 1, none⟩)) rfl (by kernel_rfl) (by kernel_rfl) (by kernel_rfl) (fun _ _ _ h => h) (Or.inl ⟨by rfl, ?_⟩) hHeld ?_
    · (intro w hSw; (try dsimp only at hSw); go_simp)
    try simp only [Act.put, List.setIfInBounds_toArray, List.set_cons_zero, List.set_cons_succ]
    refine wpAnyH_take (i := 2) (oi := { dst := some 138, op := Op.load 3 (Operand.tmp 137), type := 3, pos := "law.go:77", after := #[{ on := 1, ground := Ground.data }], guard := none }) (v := .int .i64 ix) rfl (by kernel_rfl) (by kernel_rfl) (by kernel_rfl) (fun _ _ _ h => h) (Or.inl ⟨by rfl, ?_⟩) hHeld ?_
    · (intro w hSw; obtain ⟨s0, s1, s2, s3, s4, sl⟩ := box30 hSw; go_simp)
    try simp only [Act.put, List.setIfInBounds_toArray, List.set_cons_zero, List.set_cons_succ]
    refine wpAnyH_take (i := 3) (oi := { dst := some 139, op := Op.fieldAddr 30 (Operand.tmp 5) 2, type := 0, pos := "law.go:77", after := #[], guard := none }) (v := .pointer (some ⟨w.heap.size, 2, none⟩)) rfl (by kernel_rfl) (by kernel_rfl) (by kernel_rfl) (fun _ _ _ h => h) (Or.inl ⟨by rfl, ?_⟩) hHeld ?_
    · (intro w hSw; (try dsimp only at hSw); go_simp)
    try simp only [Act.put, List.setIfInBounds_toArray, List.set_cons_zero, List.set_cons_succ]
    refine wpAnyH_take (i := 4) (oi := { dst := some 140, op := Op.load 3 (Operand.tmp 139), type := 3, pos := "law.go:77", after := #[{ on := 3, ground := Ground.data }], guard := none }) (v := .int .i64 tm) rfl (by kernel_rfl) (by kernel_rfl) (by kernel_rfl) (fun _ _ _ h => h) (Or.inl ⟨by rfl, ?_⟩) hHeld ?_
    · (intro w hSw; obtain ⟨s0, s1, s2, s3, s4, sl⟩ := box30 hSw; go_simp)
    try simp only [Act.put, List.setIfInBounds_toArray, List.set_cons_zero, List.set_cons_succ]
    refine wpAnyH_take (i := 6) (oi := { dst := some 142, op := Op.move (Operand.tmp 1), type := 25, pos := "law.go:77", after := #[], guard := none }) (v := .pointer (some ⟨q, 0, none⟩)) rfl (by kernel_rfl) (by kernel_rfl) (by kernel_rfl) (fun _ _ _ h => h) (Or.inl ⟨by rfl, ?_⟩) hHeld ?_
    · (intro w hSw; (try dsimp only at hSw); go_simp)
    try simp only [Act.put, List.setIfInBounds_toArray, List.set_cons_zero, List.set_cons_succ]
    refine wpAnyH_take (i := 7) (oi := { dst := some 143, op := Op.fieldAddr 30 (Operand.tmp 5) 1, type := 0, pos := "law.go:77", after := #[], guard := none }) (v := .pointer (some ⟨w.heap.size, 1, none⟩)) rfl (by kernel_rfl) (by kernel_rfl) (by kernel_rfl) (fun _ _ _ h => h) (Or.inl ⟨by rfl, ?_⟩) hHeld ?_
    · (intro w hSw; (try dsimp only at hSw); go_simp)
    try simp only [Act.put, List.setIfInBounds_toArray, List.set_cons_zero, List.set_cons_succ]
    refine wpAnyH_take (i := 8) (oi := { dst := some 144, op := Op.load 3 (Operand.tmp 143), type := 3, pos := "law.go:77", after := #[{ on := 7, ground := Ground.data }], guard := none }) (v := .int .i64 ix) rfl (by kernel_rfl) (by kernel_rfl) (by kernel_rfl) (fun _ _ _ h => h) (Or.inl ⟨by rfl, ?_⟩) hHeld ?_
    · (intro w hSw; obtain ⟨s0, s1, s2, s3, s4, sl⟩ := box30 hSw; go_simp)
    try simp only [Act.put, List.setIfInBounds_toArray, List.set_cons_zero, List.set_cons_succ]
    refine wpAnyH_take (i := 9) (oi := { dst := some 145, op := Op.fieldAddr 30 (Operand.tmp 5) 2, type := 0, pos := "law.go:77", after := #[], guard := none }) (v := .pointer (some ⟨w.heap.size, 2, none⟩)) rfl (by kernel_rfl) (by kernel_rfl) (by kernel_rfl) (fun _ _ _ h => h) (Or.inl ⟨by rfl, ?_⟩) hHeld ?_
    · (intro w hSw; (try dsimp only at hSw); go_simp)
    try simp only [Act.put, List.setIfInBounds_toArray, List.set_cons_zero, List.set_cons_succ]
    refine wpAnyH_take (i := 10) (oi := { dst := some 146, op := Op.load 3 (Operand.tmp 145), type := 3, pos := "law.go:77", after := #[{ on := 9, ground := Ground.data }], guard := none }) (v := .int .i64 tm) rfl (by kernel_rfl) (by kernel_rfl) (by kernel_rfl) (fun _ _ _ h => h) (Or.inl ⟨by rfl, ?_⟩) hHeld ?_
    · (intro w hSw; obtain ⟨s0, s1, s2, s3, s4, sl⟩ := box30 hSw; go_simp)
    try simp only [Act.put, List.setIfInBounds_toArray, List.set_cons_zero, List.set_cons_succ]
    refine wpAnyH_ready (rs := [5]) (by kernel_rfl) (by simp) ?_
    refine AllReadyH.cons (o := { dst := some 141, op := Op.call { callee := Callee.value (Operand.func 30), args := #[Operand.tmp 136, Operand.tmp 138, Operand.tmp 140], argTypes := #[23, 3, 3] }, type := 4, pos := "law.go:77", after := #[{ on := 0, ground := Ground.data }, { on := 2, ground := Ground.data }, { on := 4, ground := Ground.data }], guard := none }) rfl (fun K hK => ?_) AllReadyH.nil
    go_simp
    refine (newer_any HTd.out.c ix tm).mono ?_
    rintro en w3 ⟨he, hd⟩
    rw [HNB.out] at he
    subst he
    have b3 := hd.bel
    have HT3 := hidOf (HTd.out.below b3)
    have HBX3 : Hid (w3.heap[w.heap.size]? = some (.cells #[.int .i64 kd, .int .i64 ix, .int .i64 tm, .int .i64 op, .slice xa n xc] 30 (0, 0))) := hidOf ((b3.block _ xl).trans HBX.out)
    clear hd b3
    refine hK.out _ _ HBX3.out (fun hHeld1 => ?_)
    clear hK K
    try simp only [Act.put, List.setIfInBounds_toArray, List.set_cons_zero, List.set_cons_succ]
    refine wpAnyH_ready (rs := [11]) (by kernel_rfl) (by simp) ?_
    refine AllReadyH.cons (o := { dst := some 147, op := Op.call { callee := Callee.value (Operand.func 31), args := #[Operand.tmp 142, Operand.tmp 144, Operand.tmp 146], argTypes := #[25, 3, 3] }, type := 4, pos := "law.go:77", after := #[{ on := 6, ground := Ground.data }, { on := 8, ground := Ground.data }, { on := 10, ground := Ground.data }, { on := 5, ground := Ground.chain }], guard := none }) rfl (fun K hK => ?_) AllReadyH.nil
    go_simp
    refine (rnewer_any HT3.out.r ix tm).mono ?_
    rintro en w4 ⟨he, hw4⟩
    rw [HNB.out] at he
    subst he
    subst w4
    refine hK.out _ _ HBX3.out (fun hHeld2 => ?_)
    clear hK K
    try simp only [Act.put, List.setIfInBounds_toArray, List.set_cons_zero, List.set_cons_succ]
    refine wpAnyH_take (i := 12) (oi := { dst := some 148, op := Op.binOp BinOp.eql 4 (Operand.tmp 141) (Operand.tmp 147) 4, type := 4, pos := "law.go:77", after := #[{ on := 5, ground := Ground.data }, { on := 11, ground := Ground.data }], guard := none }) (v := .bool true) rfl (by kernel_rfl) (by kernel_rfl) (by kernel_rfl) (fun _ _ _ h => h) (Or.inl ⟨by rfl, ?_⟩) hHeld2 ?_
    · (intro w hSw; (try dsimp only at hSw); go_simp)
    try simp only [Act.put, List.setIfInBounds_toArray, List.set_cons_zero, List.set_cons_succ]
    refine wpAnyH_take (i := 13) (oi := { dst := some 6, op := Op.assign (Operand.tmp 148), type := 4, pos := "law.go:77", after := #[{ on := 12, ground := Ground.data }, { on := 11, ground := Ground.chain }, { on := 0, ground := Ground.phase }, { on := 1, ground := Ground.phase }, { on := 2, ground := Ground.phase }, { on := 3, ground := Ground.phase }, { on := 4, ground := Ground.phase }, { on := 5, ground := Ground.phase }, { on := 6, ground := Ground.phase }, { on := 7, ground := Ground.phase }, { on := 8, ground := Ground.phase }, { on := 9, ground := Ground.phase }, { on := 10, ground := Ground.phase }, { on := 11, ground := Ground.phase }, { on := 12, ground := Ground.phase }], guard := none }) (v := .bool true) rfl (by kernel_rfl) (by kernel_rfl) (by kernel_rfl) (fun _ _ _ h => h) (Or.inl ⟨by rfl, ?_⟩) hHeld2 ?_
    · (intro w hSw; (try dsimp only at hSw); go_simp)
    try simp only [Act.put, List.setIfInBounds_toArray, List.set_cons_zero, List.set_cons_succ]
    refine wpAnyH_done (by kernel_rfl) ?_ _
    go_wp2
    go_ret
    exact ⟨rfl, _, _, HT3.out⟩
end
end Go.Proofs.Ytdkmlgkljhhokaa
