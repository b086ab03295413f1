/- Whether an allocation holds one of a job s slots, asked by an iterator; drawn regions in a round. -/
import Derived.Test.YtkokkdekbilkjaaRn
import Derived.Sort.QuietThIn
import Derived.Sort.BigQuietIn
namespace Go.Proofs.Ytkokkdekbilkjaa
open Go.RowKit Go.Shelf
attribute [local go_sem] Oper.semAt_some
/- a drawn region of plain operations, in a round -/
def okOp (o : Oper) : Bool := match o.op with
  | .load .. | .fieldAddr .. | .indexAddr .. | .assign _ | .move _ => true
  | _ => false
theorem ok_exec (ρ : Operand → Value) (o : Oper) (ho : okOp o = true) : ∃ X : Sem Value, ∀ (P : Program) (w : World), (execOp ρ o).run P w = (X.run P w).andThen fun v w' => .ok (.value v) w' := by
  obtain ⟨dst, op, type, pos, after, guard⟩ := o
  cases op with
  | load t a => exact ⟨Instr.loadAt t (ρ a), fun P w => by simp [execOp]⟩
  | fieldAddr s x f => exact ⟨Instr.fieldAt s (ρ x) f, fun P w => by simp [execOp]⟩
  | indexAddr t x i => exact ⟨Instr.indexAt t (ρ x) (ρ i), fun P w => by simp [execOp]⟩
  | assign x => exact ⟨pure (ρ x), fun P w => by simp [execOp]⟩
  | move x => exact ⟨pure (ρ x), fun P w => by simp [execOp]⟩
  | _ => exact absurd ho (by simp [okOp])
theorem op_round {l n : Nat} {P : Program} {o : Oper} {a : Act} {w : World} {K K' : Act → World → Prop} {Q : Exit → Act → World → Prop} (hK : ∀ a w, K a w → K' a w) (ho : okOp o = true) (h : o.wpIn Fence.wide n P a w K Q) : o.wpIn (Fence.wide.inRound l) n P a w K' Q := by
  refine ⟨fun _ _ => trivial, ?_⟩
  have h2 := h.2
  have hd : ∀ c, o.op ≠ .defer c := fun c e => by unfold okOp at ho; rw [e] at ho; cases ho
  rw [Oper.semAt_plain _ _ _ hd] at h2 ⊢
  obtain ⟨X, hX⟩ := ok_exec a.eval o ho
  rw [hX] at h2 ⊢
  cases hx : X.run P w with
  | ok v w' => rw [hx] at h2; exact hK _ _ h2
  | halt hh w' => rw [hx] at h2; cases hh <;> first | exact h2 | exact h2.elim
theorem any_round {l n : Nat} {P : Program} {md : Region.Mode} {ops : Array Oper} {Q : Exit → Act → World → Prop} (hok : ops.all okOp = true) : ∀ (fuel : Nat) (listed : Array Bool) (a : Act) (w : World), wpAnyIn Fence.wide n P md ops Q fuel listed a w → wpAnyIn (Fence.wide.inRound l) n P md ops Q fuel listed a w
  | 0, _, _, _, h => h
  | fuel + 1, listed, a, w, h => by
    refine ⟨h.1, fun i hi => ?_⟩
    have h2 := h.2 i hi
    unfold wpOpIn at h2 ⊢
    cases ho : ops[i]? with
    | none => rw [ho] at h2; exact any_round hok fuel _ _ _ h2
    | some o =>
      rw [ho] at h2
      simp only at h2 ⊢
      have hko : okOp o = true := by
        obtain ⟨hlt, e⟩ := Array.getElem?_eq_some_iff.1 ho
        rw [← e]
        exact (Array.all_eq_true.1 hok) i hlt
      by_cases hw : Region.wanted o (yielded ops a.tmps) = true
      · rw [if_pos hw] at h2 ⊢
        exact op_round (fun a w h => any_round hok fuel _ a w h) hko h2
      · rw [if_neg hw] at h2 ⊢
        exact ⟨fun _ _ => trivial, any_round hok fuel _ _ _ h2.2⟩
theorem wpIn_quiet_round {l id n : Nat} {P : Program} {Q : Exit → Act → World → Prop} {a : Act} {w : World} {ops : List Oper} (hok : ops.toArray.all okOp = true) (hm : P.follows .mixedOrders = true) (hB : Region.lexB .any ops.toArray = true)
    (h : wpQuietIn Fence.wide n P ops.toArray (fun w' => ∃ n, w' = w.drewN n) (fun a' => ∀ w', (∃ n, w' = w.drewN n) → Q .normal a' w') ops a) : (Code.region id ops.toArray true).wpIn (Fence.wide.inRound l) n P Q a w := by
  simp only [Region.lexB, Bool.and_eq_true] at hB
  refine wpIn_region_any hm (any_round hok _ _ _ _ (wpAnyIn_of_quiet (C := fun w' => ∃ n, w' = w.drewN n) (Q := fun a' => ∀ w', (∃ n, w' = w.drewN n) → Q .normal a' w') rfl (fun _ w' hw' h => h w' hw') _ _ _ _ ⟨1, rfl⟩ ?_))
  have := wpAnyQIn_lex (F := Fence.wide) (n := n) (C := fun w' => ∃ n, w' = w.drewN n) (md := .any) hB.1 ops 0 (Array.replicate ops.toArray.size false) a (by simp) (by simpa using hB.2) h
  simpa using this
theorem wpListIn_make_full {F : Fence} {n : Nat} {P : Program} (w : World) {ops : Array Oper} {rest : List Oper} {o : Oper} {a : Act} {Q : Exit → Act → World → Prop}
    (hg : o.guard = none) (l c : Operand) (t : TypeId) (hop : o.op = Op.makeSlice t l c)
    (base : Nat) (e : TypeId) (i : TypeInfo) (z : Value) (size : Nat) (h1 : P.underlying t = some (.slice e)) (h2 : P.info? e = some i) (h3 : i.zero = some z) (h4 : i.size = size)
    (m : Nat) (hl : a.eval l = .int .i64 (m : Int)) (hc : a.eval c = .int .i64 (m : Int)) (b2 : i.bytes * m ≤ 281474976710656) (b3 : m ≤ maxLen) (b4 : base ≤ w.heap.size)
    (hK : ∀ w', w'.ownsRow base e size (.slice (some ⟨w.heap.size, 0, none⟩) m m) m (madeCells z.cells (m * size)).toList → w.grownBy w' none → wpListIn F n P ops Q rest (a.put o.dst (.slice (some ⟨w.heap.size, 0, none⟩) m m)) w') :
    wpListIn F n P ops Q (o :: rest) a w := by
  refine wpListIn_plain hg fun K hK' => ?_
  obtain ⟨w', hrun, r1, r2⟩ := run_make_full (P := P) w base t e i z size h1 h2 h3 h4 .i64 .i64 m b2 b3 b4
  unfold Oper.wpIn
  refine ⟨?_, ?_⟩
  · simp [Oper.about, hop]
  · rw [Oper.semAt_plain F _ _ (by rw [hop]; intro c hc'; cases hc')]
    simp [execOp, hop, hl, hc, hrun, Result.andThen]
    exact hK' _ _ (hK w' r1 r2)
set_option maxHeartbeats 1000000 in
theorem p75_any (x : Al) (id ty pr pa ve : Int) (sd : Bool) (ga : Option Addr) (gc : Nat) (G : List Gp) (S : Nat → Prop) (p : Nat) (w : World) (hS : ∀ b, S b → b < w.heap.size) (hG : Fl w S 3 24 Gp.cs ga G) (hj : w.rangeAt p 0 [.int .i64 id, .int .i64 ty, .int .i64 pr, .int .i64 pa, .slice ga G.length gc, .int .i64 ve, .bool sd]) (hp : p < w.heap.size) :
    Calls Try.prog 75 #[.agg #[.int .i64 x.id, .int .i64 x.jb, .int .i64 x.ve, .int .i64 x.gr, .int .i64 x.ix, .int .i64 x.nd, .int .i64 x.ep, .int .i64 x.c, .int .i64 x.m, .bool x.sp, .int .i64 x.st], .pointer (some ⟨p, 0, none⟩)] w fun e w' => e = .returned (.bool (hoB id G x)) ∧ Below w.heap.size w w' := by
  have j0 : w.cell? ⟨p, 0, none⟩ = some (.int .i64 id) := hj 0 _ rfl
  have j1 : w.cell? ⟨p, 1, none⟩ = some (.int .i64 ty) := hj 1 _ rfl
  have j2 : w.cell? ⟨p, 2, none⟩ = some (.int .i64 pr) := hj 2 _ rfl
  have j3 : w.cell? ⟨p, 3, none⟩ = some (.int .i64 pa) := hj 3 _ rfl
  have j4 : w.cell? ⟨p, 4, none⟩ = some (.slice ga G.length gc) := hj 4 _ rfl
  have j5 : w.cell? ⟨p, 5, none⟩ = some (.int .i64 ve) := hj 5 _ rfl
  have j6 : w.cell? ⟨p, 6, none⟩ = some (.bool sd) := hj 6 _ rfl
  have HG := hidOf hG
  have HS := hidOf hS
  clear hj hG hS
  go_enter Try.func75, Try.ntmps75
  go_wp2_with (go_at_call 76; refine (holds_any x id ty pr pa ve sd ga gc G S _ (fun b hb => Nat.lt_of_lt_of_le (HS.out b hb) (below1 w _).size) (HG.out.kept (fun b hb => (below1 w _).block b (HS.out b hb)) (fun _ h => h))).mono ?_; rintro e w1 ⟨rfl, hb⟩; have HB := hidOf ((below1 w _).trans (hb.mono (below1 w _).size)); clear hb)
  go_ret
  exact ⟨rfl, HB.out⟩
set_option maxRecDepth 100000 in
set_option maxHeartbeats 4000000 in
theorem it75 (n : Nat) (hn : 1 ≤ n) (p Bl Bf : Nat) (a : Option Addr) (cap : Nat) (L : List Al) (P : Al → Bool) (Q : Nat → Prop) (w : World) (hQ : ∀ k, Q k → k < w.heap.size) (hBl : Q Bl) (hBf : Q Bf)
    (hl : w.cell? ⟨Bl, 0, none⟩ = some (.slice a L.length cap)) (hf : w.cell? ⟨Bf, 0, none⟩ = some (.func (.func 75) #[] #[.pointer (some ⟨p, 0, none⟩)])) (hL : Fl w Q 11 88 Al.cs a L)
    (hP : ∀ W (x : Al), Kq Q w W → Calls Try.prog 75 #[.agg #[.int .i64 x.id, .int .i64 x.jb, .int .i64 x.ve, .int .i64 x.gr, .int .i64 x.ix, .int .i64 x.nd, .int .i64 x.ep, .int .i64 x.c, .int .i64 x.m, .bool x.sp, .int .i64 x.st], .pointer (some ⟨p, 0, none⟩)] W fun e W' => e = .returned (.bool (P x)) ∧ Below W.heap.size W W') :
    SeqStopsK Fence.wide n Try.prog 77 #[.pointer (some ⟨Bl, 0, none⟩), .pointer (some ⟨Bf, 0, none⟩)] (fun x : {y : Nat × Al // P y.2 = true} => #[.int .i64 (x.1.1 : Int), .agg #[.int .i64 x.1.2.id, .int .i64 x.1.2.jb, .int .i64 x.1.2.ve, .int .i64 x.1.2.gr, .int .i64 x.1.2.ix, .int .i64 x.1.2.nd, .int .i64 x.1.2.ep, .int .i64 x.1.2.c, .int .i64 x.1.2.m, .bool x.1.2.sp, .int .i64 x.1.2.st]]) (Kq Q) (fun ys => ys.map (·.1) = sel P L L.length) (fun pre => ∃ k, k ≤ L.length ∧ pre.map (·.1) = sel P L k) L.length w := fun l J Jx W hW hJ _ hY h0 => by
  have hlen : L.length ≤ 140737488355328 := by have := hL.bd; omega
  have hKW : Kq Q w W := Kq.bel hW hQ
  have hl' := (hKW.cell hBl 0).trans hl
  refine callsIn_of_wp Try.func77 rfl trivial ?_ rfl
  simp only [Try.ntmps77, List.size_toArray, List.length_cons, List.length_nil, Nat.reduceAdd, Nat.reduceSub, Array.replicate_succ, Array.replicate_zero, List.push_toArray, List.append_toArray, List.nil_append, List.cons_append]
  gi_wp2
  gi_loopw [8] (fun i wr => ∃ (k : Nat) (pre : List {y : Nat × Al // P y.2 = true}), k ≤ L.length ∧ i = .int .i64 k ∧ Hid (pre.map (·.1) = sel P L k) ∧ J pre wr ∧ Kq Q w wr ∧ W.heap.size ≤ wr.heap.size) (fun i _ => L.length - (intOf i).toNat)
  case atStart => exact ⟨0, [], Nat.zero_le _, rfl, hidOf rfl, h0, hKW, Nat.le_refl _⟩
  case round =>
    obtain ⟨k, pre, hk, rfl, HPR, hJs, hKr, hsz⟩ := hrel
    by_cases hlt : k < L.length
    · obtain ⟨b, off, ha, hQb, hc⟩ := (hKr.fl hL).at k hlt
      subst ha
      have hx := getD_at L k hlt
      have HYES := hidOf (@sel_yes Al _ P L k)
      have HNO := hidOf (@sel_no Al _ P L k)
      rw [hx] at HYES HNO
      clear hx
      generalize L[k] = x at *
      have hff := (hKr.cell hBf 0).trans hf
      have hQr : ∀ k, Q k → k < wr.heap.size := fun k hk => Nat.lt_of_lt_of_le (hQ k hk) hKr.size
      have hbl : b < wr.heap.size := hQr b hQb
      have hBfl : Bf < wr.heap.size := hQr Bf hBf
      have c0 : wr.cell? ⟨b, off + k * 11, none⟩ = some (.int .i64 x.id) := hc 0 _ rfl
      have c1 : wr.cell? ⟨b, off + k * 11 + 1, none⟩ = some (.int .i64 x.jb) := hc 1 _ rfl
      have c2 : wr.cell? ⟨b, off + k * 11 + 2, none⟩ = some (.int .i64 x.ve) := hc 2 _ rfl
      have c3 : wr.cell? ⟨b, off + k * 11 + 3, none⟩ = some (.int .i64 x.gr) := hc 3 _ rfl
      have c4 : wr.cell? ⟨b, off + k * 11 + 4, none⟩ = some (.int .i64 x.ix) := hc 4 _ rfl
      have c5 : wr.cell? ⟨b, off + k * 11 + 5, none⟩ = some (.int .i64 x.nd) := hc 5 _ rfl
      have c6 : wr.cell? ⟨b, off + k * 11 + 6, none⟩ = some (.int .i64 x.ep) := hc 6 _ rfl
      have c7 : wr.cell? ⟨b, off + k * 11 + 7, none⟩ = some (.int .i64 x.c) := hc 7 _ rfl
      have c8 : wr.cell? ⟨b, off + k * 11 + 8, none⟩ = some (.int .i64 x.m) := hc 8 _ rfl
      have c9 : wr.cell? ⟨b, off + k * 11 + 9, none⟩ = some (.bool x.sp) := hc 9 _ rfl
      have c10 : wr.cell? ⟨b, off + k * 11 + 10, none⟩ = some (.int .i64 x.st) := hc 10 _ rfl
      have HP := hidOf hP
      have HY := hidOf hY
      have HJ := hidOf hJ
      have HJs := hidOf hJs
      have HK := hidOf hKr
      have HQ := hidOf hQr
      have hk0 : pre.length < L.length := by have h1 := sel_len P L k; rw [← HPR.out, List.length_map] at h1; omega
      clear hc hP hY hL hJ hJs hKr hQ hQr hKW
      have HX : Hid (∀ W', Below wr.heap.size wr W' → Kq Q w W') := hidOf fun W' hb => HK.out.trans (Kq.bel hb HQ.out)
      have HZ : Hid (∀ W', Below wr.heap.size wr W' → J pre W') := hidOf fun W' hb => HJ.out _ _ _ none HJs.out (bgrown hb) (fun r e => by cases e)
      cases hPx : P x with
      | true =>
        have HYES2 := hidOf (HYES.out hPx)
        clear HYES HNO
        have HPx := hidOf hPx
        clear hPx
        gi_wp2_with (first | (refine ⟨trivial, ?_⟩; gi_at_call 75; refine (callsIn_wide.2 (HP.out _ x (HX.out _ (below1 _ _)))).mono ?_; rintro e w1 ⟨rfl, hb1⟩; have hd := box_new (cs := [.int .i64 x.id, .int .i64 x.jb, .int .i64 x.ve, .int .i64 x.gr, .int .i64 x.ix, .int .i64 x.nd, .int .i64 x.ep, .int .i64 x.c, .int .i64 x.m, .bool x.sp, .int .i64 x.st]) hb1; have hb := (below1 wr _).trans (hb1.mono (by simp)); clear hb1; rw [HPx.out]; obtain ⟨fn, tmps, assign, body, hy, hR⟩ := HY.out _ ⟨(k, x), HPx.out⟩ w1 (HZ.out _ hb) hk0; dsimp only at hy; have d0 : w1.cell? ⟨wr.heap.size, 0, none⟩ = some (.int .i64 x.id) := hd 0 _ rfl; have d1 : w1.cell? ⟨wr.heap.size, 1, none⟩ = some (.int .i64 x.jb) := hd 1 _ rfl; have d2 : w1.cell? ⟨wr.heap.size, 2, none⟩ = some (.int .i64 x.ve) := hd 2 _ rfl; have d3 : w1.cell? ⟨wr.heap.size, 3, none⟩ = some (.int .i64 x.gr) := hd 3 _ rfl; have d4 : w1.cell? ⟨wr.heap.size, 4, none⟩ = some (.int .i64 x.ix) := hd 4 _ rfl; have d5 : w1.cell? ⟨wr.heap.size, 5, none⟩ = some (.int .i64 x.nd) := hd 5 _ rfl; have d6 : w1.cell? ⟨wr.heap.size, 6, none⟩ = some (.int .i64 x.ep) := hd 6 _ rfl; have d7 : w1.cell? ⟨wr.heap.size, 7, none⟩ = some (.int .i64 x.c) := hd 7 _ rfl; have d8 : w1.cell? ⟨wr.heap.size, 8, none⟩ = some (.int .i64 x.m) := hd 8 _ rfl; have d9 : w1.cell? ⟨wr.heap.size, 9, none⟩ = some (.bool x.sp) := hd 9 _ rfl; have d10 : w1.cell? ⟨wr.heap.size, 10, none⟩ = some (.int .i64 x.st) := hd 10 _ rfl; have HB := hidOf hb; clear hd hb))
        refine hR.mono ?_
        rintro e W3 (⟨rfl, hJ3, hk3⟩ | ⟨rfl, hJx3⟩)
        · gi_wp2
          go_roundw
          case rel => exact ⟨k + 1, pre ++ [⟨(k, x), HPx.out⟩], by omega, by simp, hidOf (by rw [HYES2.out, List.map_append, HPR.out]; rfl), hJ3, (HX.out _ HB.out).trans hk3, Nat.le_trans (Nat.le_trans hsz HB.out.size) hk3.size⟩
          case measure => simp [intOf]; omega
        · gi_wp2
          refine bodyPost_ret (results_none rfl _ _ _) rfl ?_
          exact ⟨⟨_, rfl⟩, .inr ⟨_, ⟨k + 1, by omega, by rw [HYES2.out, List.map_append, HPR.out]; rfl⟩, hJx3⟩⟩
      | false =>
        have HNO2 := hidOf (HNO.out hPx)
        clear HYES HNO HY
        have HPx := hidOf hPx
        clear hPx
        gi_wp2_with (first | (refine ⟨trivial, ?_⟩; gi_at_call 75; refine (callsIn_wide.2 (HP.out _ x (HX.out _ (below1 _ _)))).mono ?_; rintro e w1 ⟨rfl, hb1⟩; have hb := (below1 wr _).trans (hb1.mono (by simp)); clear hb1; rw [HPx.out]; have HB := hidOf hb; clear hb))
        refine ⟨fun _ h => (by cases h), ?_⟩
        gi_wp2
        go_roundw
        case rel => exact ⟨k + 1, pre, by omega, by simp, hidOf (HPR.out.trans HNO2.out.symm), HZ.out _ HB.out, HX.out _ HB.out, Nat.le_trans hsz HB.out.size⟩
        case measure => simp [intOf]; omega
    · have hkl : k = L.length := by omega
      subst hkl
      gi_wp2
      go_end0
      exact ⟨⟨_, rfl⟩, .inl ⟨_, HPR.out, hJs⟩⟩
end Go.Proofs.Ytkokkdekbilkjaa
