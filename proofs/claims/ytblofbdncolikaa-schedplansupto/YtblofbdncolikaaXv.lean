/- Who holds the slots of a job: the code's holders. -/
import Derived.Test.YtblofbdncolikaaTk
import Derived.Test.YtblofbdncolikaaGm
import Derived.Test.YtblofbdncolikaaRs
namespace Go.Proofs.Ytblofbdncolikaa
open Go.RowKit Go.Shelf
def oXv_0 : Oper := { dst := some 27, op := Op.fieldAddr 42 (Operand.tmp 6) 1, type := 0, pos := "diff.go:51", after := #[], guard := none }
def oXv_1 : Oper := { dst := some 28, op := Op.load 3 (Operand.tmp 27), type := 3, pos := "diff.go:51", after := #[{ on := 0, ground := Ground.data }], guard := none }
def oXv_2 : Oper := { dst := some 29, op := Op.move (Operand.tmp 0), type := 85, pos := "diff.go:51", after := #[], guard := none }
def oXv_3 : Oper := { dst := some 30, op := Op.nilCheck (Operand.tmp 29), type := 0, pos := "diff.go:51", after := #[{ on := 2, ground := Ground.data }], guard := none }
def oXv_4 : Oper := { dst := some 31, op := Op.fieldAddr 93 (Operand.tmp 30) 0, type := 0, pos := "diff.go:51", after := #[{ on := 3, ground := Ground.data }], guard := none }
def oXv_5 : Oper := { dst := some 32, op := Op.fieldAddr 51 (Operand.tmp 31) 0, type := 0, pos := "diff.go:51", after := #[{ on := 4, ground := Ground.data }], guard := none }
def oXv_6 : Oper := { dst := some 33, op := Op.load 3 (Operand.tmp 32), type := 3, pos := "diff.go:51", after := #[{ on := 5, ground := Ground.data }], guard := none }
def oXv_7 : Oper := { dst := some 34, op := Op.binOp BinOp.neq 3 (Operand.tmp 28) (Operand.tmp 33) 3, type := 4, pos := "diff.go:51", after := #[{ on := 1, ground := Ground.data }, { on := 6, ground := Ground.data }], guard := none }
def oXv_8 : Oper := { dst := some 35, op := Op.move (Operand.tmp 34), type := 4, pos := "diff.go:51", after := #[{ on := 7, ground := Ground.data }], guard := none }
def oXv_9 : Oper := { dst := some 36, op := Op.load 42 (Operand.tmp 6), type := 42, pos := "diff.go:51", after := #[{ on := 8, ground := Ground.guard }], guard := some (8, false) }
def oXv_10 : Oper := { dst := some 37, op := Op.call { callee := Callee.value (Operand.func 49), args := #[Operand.tmp 36], argTypes := #[42] }, type := 4, pos := "diff.go:51", after := #[{ on := 9, ground := Ground.data }, { on := 8, ground := Ground.chain }, { on := 8, ground := Ground.guard }], guard := some (8, false) }
def oXv_11 : Oper := { dst := some 38, op := Op.pick (Operand.tmp 35) (Operand.const (Value.bool true)) (Operand.tmp 37), type := 4, pos := "diff.go:51", after := #[{ on := 8, ground := Ground.data }, { on := 10, ground := Ground.data }], guard := none }
attribute [local go_sem] Oper.semAt_some
/- a look in memory -/
def lkC (d : Jb) (ga : Option Addr) (gc : Nat) (lb : Array Value) (aa : Option Addr) (an ac : Nat) (ho st : Option Nat) (ia : Option Addr) (il ic : Nat) : List Value :=
 [.int .i64 d.id, .int .i64 d.ty, .int .i64 d.pr, .int .i64 d.pa, .slice ga d.gs.length gc, .int .i64 d.ve, .bool d.sd, .func (.func 66) #[] lb, .slice aa an ac, .map ho, .map st, .slice ia il ic]
set_option maxHeartbeats 400000 in
theorem over_any (x : Al) (w : World) : Calls Try.prog 49 #[.agg #[.int .i64 x.id, .int .i64 x.jb, .int .i64 x.ve, .int .i64 x.gr, .int .i64 x.ix, .int .i64 x.nd, .int .i64 x.ep, .int .i64 x.c, .int .i64 x.m, .bool x.sp, .int .i64 x.st]] w fun e w' => e = .returned (.bool (ovr x.st)) ∧ Below w.heap.size w w' := by
 by_cases h : 3 ≤ x.st
 ·rw [ovr_true h]
  go_enter Try.func49, Try.ntmps49
  go_wp2
  go_ret
  exact ⟨by simp, below1 _ _⟩
 ·rw [ovr_false h]
  go_enter Try.func49, Try.ntmps49
  go_wp2
  go_ret
  exact ⟨by simp, below1 _ _⟩
set_option maxRecDepth 100000 in
set_option maxHeartbeats 1000000 in
theorem slotOf_any (x : Al) (w : World) : Calls Try.prog 50 #[.agg #[.int .i64 x.id, .int .i64 x.jb, .int .i64 x.ve, .int .i64 x.gr, .int .i64 x.ix, .int .i64 x.nd, .int .i64 x.ep, .int .i64 x.c, .int .i64 x.m, .bool x.sp, .int .i64 x.st]] w fun e w' => e = .returned (.agg #[.int .i64 x.gr, .int .i64 x.ix]) ∧ Below w.heap.size w w' := by
 go_enter Try.func50, Try.ntmps50
 go_wp2
 refine bodyPost_ret (results_cell_row Try.results50 _ _ (w.heap.size + 1) 60 #[.int .i64 x.gr, .int .i64 x.ix] (0, 0) _ rfl (by have := heap_alloc_new (w.alloc (.cells #[.int .i64 x.id, .int .i64 x.jb, .int .i64 x.ve, .int .i64 x.gr, .int .i64 x.ix, .int .i64 x.nd, .int .i64 x.ep, .int .i64 x.c, .int .i64 x.m, .bool x.sp, .int .i64 x.st] 42)) (.cells #[.int .i64 x.gr, .int .i64 x.ix] 60); rw [World.size_alloc] at this; exact this) Try.underlying60 rfl (by kernel_rfl)) rfl ⟨rfl, below2 _ _ _⟩
/- the place of the first of the first n that is looked for -/
def fiK {α : Type} [Inhabited α] (P : α → Bool) (L : List α) : Nat → Int
 | 0 => -1
 | n + 1 => if fiK P L n = -1 then (if P (L[n]?.getD default) = true then (n : Int) else -1) else fiK P L n
theorem fiK_sel {α : Type} [Inhabited α] (P : α → Bool) (L : List α) (n : Nat) : fiK P L n = match sel P L n with
  | [] => -1
  | x :: _ => (x.1 : Int) := by
 induction n with
 | zero => rfl
 | succ n ih =>
  rw [fiK, sel, ih]
  cases hs : sel P L n with
  | nil =>
   rw [if_pos rfl]
   by_cases hp : P (L[n]?.getD default) = true
   ·rw [if_pos hp, if_pos hp]; rfl
   ·rw [if_neg hp, if_neg hp]; rfl
  | cons x r =>
   rw [if_neg (show ¬ ((x.1 : Int) = -1) by have : (0 : Int) ≤ (x.1 : Int) := Int.natCast_nonneg _; omega)]; rfl
theorem fiK_fi {α : Type} [Inhabited α] (P : α → Bool) (L : List α) : fiK P L L.length = fi P L := fiK_sel P L L.length
def neV (pre : List (Int × Int)) (k : Int × Int) : Option Value := if k ∈ pre then some (.int .i64 (-1)) else none
theorem neV_snoc (pre : List (Int × Int)) (x : Int × Int) : (fun j => if j = x then some (.int .i64 (-1)) else neV pre j) = neV (pre ++ [x]) := by
 funext j
 unfold neV
 by_cases h : j = x
 ·simp [h]
 ·by_cases h2 : j ∈ pre <;> simp [h, h2]
def hoK (jb : Int) (S : List (Int × Int)) (A : List Al) (n : Nat) (k : Int × Int) : Option Value := if k ∈ S then some (.int .i64 (fiK (slB jb k.1 k.2) A n)) else none
theorem hoK_0 (jb : Int) (S : List (Int × Int)) (A : List Al) : hoK jb S A 0 = neV S := rfl
theorem hoK_no (jb : Int) (S : List (Int × Int)) (A : List Al) (n : Nat) (h : n < A.length) (x : Al) (hx : A[n] = x) (hn : ∀ k : Int × Int, k ∈ S → fiK (slB jb k.1 k.2) A n = -1 → slB jb k.1 k.2 x = false) : hoK jb S A (n + 1) = hoK jb S A n := by
 funext k
 unfold hoK
 by_cases hk : k ∈ S
 ·rw [if_pos hk, if_pos hk, fiK, getD_at A n h, hx]
  by_cases hm : fiK (slB jb k.1 k.2) A n = -1
  ·rw [if_pos hm, hn k hk hm, if_neg (by simp), hm]
  ·rw [if_neg hm]
 ·rw [if_neg hk, if_neg hk]
theorem hoK_yes (jb : Int) (S : List (Int × Int)) (A : List Al) (n : Nat) (h : n < A.length) (x : Al) (hx : A[n] = x) (hS : (x.gr, x.ix) ∈ S) (hj : x.jb = jb) (ho : ovr x.st = false) (hm : fiK (slB jb x.gr x.ix) A n = -1) :
  (fun k => if k = (x.gr, x.ix) then some (.int .i64 (n : Int)) else hoK jb S A n k) = hoK jb S A (n + 1) := by
 funext k
 by_cases hk : k = (x.gr, x.ix)
 ·subst hk
  unfold hoK
  rw [if_pos rfl, if_pos hS, fiK, getD_at A n h, hx, if_pos hm, if_pos (by simp [slB, isI, hj, ho])]
 ·rw [if_neg hk]
  unfold hoK
  by_cases hkS : k ∈ S
  ·rw [if_pos hkS, if_pos hkS, fiK, getD_at A n h, hx]
   have hb : slB jb k.1 k.2 x = false := by
    cases hb : slB jb k.1 k.2 x with
    | false => rfl
    | true =>
     simp [slB, isI] at hb
     exact absurd (Prod.ext hb.2.1.symm hb.2.2.1.symm) hk
   by_cases hm2 : fiK (slB jb k.1 k.2) A n = -1
   ·rw [if_pos hm2, hb, if_neg (by simp), hm2]
   ·rw [if_neg hm2]
  ·rw [if_neg hkS, if_neg hkS]
theorem lt_of_cell {w : World} {b o : Nat} {v : Value} (h : w.cell? ⟨b, o, none⟩ = some v) : b < w.heap.size := by
 apply Classical.byContradiction
 intro hn
 have : w.heap[b]? = none := Array.getElem?_eq_none (by omega)
 simp [World.cell?, this] at h
theorem hoK_look {Y : World} {b : Nat} {jb : Int} {S : List (Int × Int)} {A : List Al} {n : Nat} (h : MpR Y b kS (hoK jb S A n)) (g i : Int) (c : Bool) : (Instr.lookup 90 (.map (some b)) (.agg #[.int .i64 g, .int .i64 i]) c).run Try.prog Y = .ok (if c then .tuple #[.int .i64 (if (g, i) ∈ S then fiK (slB jb g i) A n else 0), .bool (decide ((g, i) ∈ S))] else .int .i64 (if (g, i) ∈ S then fiK (slB jb g i) A n else 0)) Y := by
 have := h.look kyS Try.underlying90 (Try.zeroValue3 Y) (g, i) c
 refine this.trans ?_
 unfold hoK
 by_cases hm : (g, i) ∈ S <;> simp [hm]
/- a way out by panic is none -/
def NP (Q : Exit → Act → World → Prop) : Exit → Act → World → Prop
 | .panic _, _, _ => False
 | e, a, w => Q e a w
theorem np_le (Q : Exit → Act → World → Prop) : ∀ e a w, NP Q e a w → Q e a w := by
 intro e a w h
 cases e <;> first | exact h | exact h.elim
theorem np_n (Q : Exit → Act → World → Prop) (a : Act) (w : World) : NP Q .normal a w = Q .normal a w := rfl
theorem np_r (Q : Exit → Act → World → Prop) (a : Act) (w : World) : NP Q .ret a w = Q .ret a w := rfl
theorem np_e (Q : Exit → Act → World → Prop) (i : Nat) (a : Act) (w : World) : NP Q (.exit i) a w = Q (.exit i) a w := rfl
attribute [local go_sem] np_n np_r np_e
def hS (x : Al) (B p b : Nat) (id : Int) (Y : World) : Prop := Y.rangeAt B 0 (Al.cs x) ∧ Y.cell? ⟨p, 0, none⟩ = some (.int .i64 id) ∧ Y.cell? ⟨b + 1, 0, none⟩ = some (.map (some b))
set_option maxRecDepth 100000 in
set_option maxHeartbeats 4000000 in
theorem holders_any (p : Nat) (d : Jb) (ga : Option Addr) (gc : Nat) (lb : Array Value) (aa : Option Addr) (ac : Nat) (A : List Al) (ho st : Option Nat) (ia : Option Addr) (il ic : Nat) (S : List (Int × Int)) (Q : Nat → Prop) (w0 w : World) (hb0 : Kq Q w0 w)
  (hp : w.rangeAt p 0 (lkC d ga gc lb aa A.length ac ho st ia il ic)) (lp : p < w.heap.size) (hA : Fl w (fun b => b < w.heap.size) 11 88 Al.cs aa A) (hQ : ∀ k, Q k → k < w.heap.size) (hseq : ∀ n, SeqY n 66 lb eS Q S w0) :
  Calls Try.prog 47 #[.pointer (some ⟨p, 0, none⟩)] w fun e w' => e = .returned (.map (some w.heap.size)) ∧ MpR w' w.heap.size kS (hoK d.id S A A.length) ∧ Below w.heap.size w w' := by
 have hmm := @run_makeMap Try.prog
 have hbd := hA.bd
 have hB1 := below2 w (.map #[] 0) (.cells #[.map (some w.heap.size)] 90)
 have hp1 := range_of hp (hB1.block p lp)
 have l0 : ((w.alloc (.map #[] 0)).alloc (.cells #[.map (some w.heap.size)] 90)).cell? ⟨p, 0, none⟩ = some (.int .i64 d.id) := hp1 0 _ rfl
 have l7 : ((w.alloc (.map #[] 0)).alloc (.cells #[.map (some w.heap.size)] 90)).cell? ⟨p, 7, none⟩ = some (.func (.func 66) #[] lb) := hp1 7 _ rfl
 have hmb : ((w.alloc (.map #[] 0)).alloc (.cells #[.map (some w.heap.size)] 90)).cell? ⟨w.heap.size + 1, 0, none⟩ = some (.map (some w.heap.size)) := by have := (Boxed.new (w.alloc (.map #[] 0)) 90 (.map (some w.heap.size))).cell; rw [World.size_alloc] at this; exact this
 have HA := hidOf hA
 have HP := hidOf hp
 clear hA hp hp1
 refine (callsIn_wide (n := 3)).1 ?_
 refine callsIn_of_wp_marks Try.func47 rfl trivial ?_ rfl
 simp only [Try.ntmps47, List.size_toArray, List.length_cons, List.length_nil, Nat.reduceAdd, Nat.reduceSub, Array.replicate_succ, Array.replicate_zero, List.push_toArray, List.append_toArray, List.nil_append, List.cons_append]
 gi_wp2
 obtain ⟨w1, hw1⟩ : ∃ w1, (w.alloc (.map #[] 0)).alloc (.cells #[.map (some w.heap.size)] 90) = w1 := ⟨_, rfl⟩
 have hM1 : MpR w1 w.heap.size kS (neV []) := by rw [← hw1]; exact (MpR.new w kS).keep ((below1 _ _).block _ (by simp))
 have hz1 : w1.heap.size = w.heap.size + 2 := by rw [← hw1]; simp
 rw [hw1] at hB1 hmb l0 l7 ⊢
 clear hw1
 refine wp_seqY (n := 3) (gf := 66) (lb := lb) rfl (enters_of Try.func66 (by kernel_rfl) rfl) (encs := eS) (K := Q) (S := S) (w0 := w0) (hseq _) (hb0.trans (Kq.bel hB1 hQ)) (fun _ => rfl)
  (fun O pre W => (∀ k, O k ↔ k = w.heap.size ∨ k = w.heap.size + 1) ∧ W.cell? ⟨w.heap.size + 1, 0, none⟩ = some (.map (some w.heap.size)) ∧ MpR W w.heap.size kS (neV pre))
  (fun _ _ _ => False)
  (fun O pre A B hs hk _ => ⟨hs.1, (World.cell?_of_block (hk _ ((hs.1 _).2 (.inr rfl)))).trans hs.2.1, hs.2.2.keep (hk _ ((hs.1 _).2 (.inl rfl)))⟩)
  (fun _ _ _ _ h _ _ => h) (fun k => k = w.heap.size ∨ k = w.heap.size + 1) (fun k hk => by omega) (fun k hk => by have := hQ k hk; exact ⟨by omega, by omega⟩) ⟨fun _ => Iff.rfl, hmb, hM1⟩ ?round ?done ?stop
 case round =>
  intro l O1 pre x W C hlt hI hp hsz hC
  simp only [eS]
  gi_wp2
  refine hC _ _ (below1 _ _) (fun W2 hsm hs2 hrec hl1 hl2 hnl hF2 hI2 => ?_)
  clear hC hI
  obtain ⟨hO, hc, hM⟩ := hI2
  have hbx := box_new (wr := W) (cs := [.int .i64 x.1, .int .i64 x.2]) (t := 60) (Below.refl _ _)
  have hbx2 := range_of hbx (hsm W.heap.size (by omega))
  have b0 : W2.cell? ⟨W.heap.size, 0, none⟩ = some (.int .i64 x.1) := hbx2 0 _ rfl
  have b1 : W2.cell? ⟨W.heap.size, 1, none⟩ = some (.int .i64 x.2) := hbx2 1 _ rfl
  simp only [World.size_alloc] at hs2
  have lb1 : W.heap.size < W2.heap.size := by omega
  have lb2 : w.heap.size + 1 < W2.heap.size := by omega
  have HM := hidOf hM
  have HO := hidOf hO
  have HLT := hidOf hlt
  have HS2 := hidOf hs2
  clear hbx hbx2 hsm hM hO hlt hp hs2 hseq hF2
  gi_wp2_with (gi_at_mapUpdate; refine wpListIn_mapX _ rfl _ _ _ 90 rfl 60 3 kyS Try.underlying90 w.heap.size _ rfl HM.out x (.int .i64 (-1)) rfl rfl ?_; intro w3 hm3 hs3 hz3 hg3; have HM3 := hidOf hm3; have HS3 := hidOf hs3; have HZ3 := hidOf hz3; have HG3 := hidOf hg3; clear hm3 hs3 hz3 hg3)
  exact ⟨O1, ⟨fun k h => .inl h, fun k hk ho => HS3.out k (fun e => ho ((HO.out k).2 (.inl e))), Nat.le_of_eq HZ3.out.symm, fun k hk => by have := HLT.out k hk; have := HS2.out; have := HZ3.out; omega, HG3.out.os, HG3.out.tape, HG3.out.output⟩, HO.out, (World.cell?_of_block (HS3.out (w.heap.size + 1) (by omega))).trans hc, by rw [← neV_snoc]; exact HM3.out⟩
 case done =>
  intro D O' W hD hnD hF hI hdef
  obtain ⟨hO, hc, hM⟩ := hI
  have hWB : Below w.heap.size w W := hB1.trans (hF.below (by omega) (fun k hk h => by omega))
  have hp2 := range_of HP.out (hWB.block p lp)
  have lpW : p < W.heap.size := Nat.lt_of_lt_of_le lp hWB.size
  have k0 : W.cell? ⟨p, 0, none⟩ = some (.int .i64 d.id) := hp2 0 _ rfl
  have k8 : W.cell? ⟨p, 8, none⟩ = some (.slice aa A.length ac) := hp2 8 _ rfl
  have hsW := hF.size
  have HF := hidOf hF
  have HM := hidOf hM
  have HWB := hidOf hWB
  clear hF hM hWB hp2 hO hnD hseq l0 l7 hmb hM1
  gi_wp2
  rename_i KK13 hK13
  refine wpIn_wide.2 (wp_mono ?_ (np_le _))
  go_loopw [22] (fun i wr => ∃ k : Nat, k ≤ A.length ∧ i = .int .i64 k ∧ Hid (MpR wr w.heap.size kS (hoK d.id S A k)) ∧ Hid (Below w.heap.size w wr) ∧ Hid (wr.cell? ⟨w.heap.size + 1, 0, none⟩ = some (.map (some w.heap.size))) ∧ Hid (wr.heap[D]? = some (.deferred (some []))) ∧ W.heap.size ≤ wr.heap.size) (fun i _ => A.length - (intOf i).toNat)
  case atStart => exact ⟨0, Nat.zero_le _, rfl, hidOf (by rw [hoK_0]; exact HM.out), HWB, hidOf hc, hidOf hdef, Nat.le_refl _⟩
  case round =>
   obtain ⟨k, hk, rfl, HMr, HBr, HCr, HDr, hsr⟩ := hrel
   have hlD : D < W.heap.size := heap_lt hdef
   clear hc k0 k8
   by_cases hlt : k < A.length
   ·obtain ⟨b, off, ha, hQb, hcc⟩ := HA.out.at k hlt
    have hbw : b < w.heap.size := hQb
    have HNO := hidOf (hoK_no d.id S A k hlt)
    have HYES := hidOf (hoK_yes d.id S A k hlt)
    obtain ⟨x, hx⟩ : ∃ x, A[k] = x := ⟨_, rfl⟩
    rw [hx] at hcc
    have HNO := hidOf (HNO.out x hx)
    have HYES := hidOf (HYES.out x hx)
    clear hx
    subst ha
    have hcr := range_of hcc (HBr.out.block b hbw)
    have hbl : b < wr.heap.size := by omega
    have lpr : p < wr.heap.size := by omega
    have c0 : wr.cell? ⟨b, off + k * 11, none⟩ = some (.int .i64 x.id) := hcr 0 _ rfl
    have c1 : wr.cell? ⟨b, off + k * 11 + 1, none⟩ = some (.int .i64 x.jb) := hcr 1 _ rfl
    have c2 : wr.cell? ⟨b, off + k * 11 + 2, none⟩ = some (.int .i64 x.ve) := hcr 2 _ rfl
    have c3 : wr.cell? ⟨b, off + k * 11 + 3, none⟩ = some (.int .i64 x.gr) := hcr 3 _ rfl
    have c4 : wr.cell? ⟨b, off + k * 11 + 4, none⟩ = some (.int .i64 x.ix) := hcr 4 _ rfl
    have c5 : wr.cell? ⟨b, off + k * 11 + 5, none⟩ = some (.int .i64 x.nd) := hcr 5 _ rfl
    have c6 : wr.cell? ⟨b, off + k * 11 + 6, none⟩ = some (.int .i64 x.ep) := hcr 6 _ rfl
    have c7 : wr.cell? ⟨b, off + k * 11 + 7, none⟩ = some (.int .i64 x.c) := hcr 7 _ rfl
    have c8 : wr.cell? ⟨b, off + k * 11 + 8, none⟩ = some (.int .i64 x.m) := hcr 8 _ rfl
    have c9 : wr.cell? ⟨b, off + k * 11 + 9, none⟩ = some (.bool x.sp) := hcr 9 _ rfl
    have c10 : wr.cell? ⟨b, off + k * 11 + 10, none⟩ = some (.int .i64 x.st) := hcr 10 _ rfl
    have hp0 := range_of HP.out (HBr.out.block p lp) 0 _ rfl
    clear hcc hcr
    -- what the walk reads, in every world that grew from here
    have HG : Hid (∀ Y, Below wr.heap.size wr Y → Y.rangeAt wr.heap.size 0 (Al.cs x) → hS x wr.heap.size p w.heap.size d.id Y) := hidOf fun Y hb hr => ⟨hr, (hb_cell hb lpr).trans hp0, (hb_cell hb (by omega)).trans HCr.out⟩
    have hbA := below1 wr (.cells #[.int .i64 x.id, .int .i64 x.jb, .int .i64 x.ve, .int .i64 x.gr, .int .i64 x.ix, .int .i64 x.nd, .int .i64 x.ep, .int .i64 x.c, .int .i64 x.m, .bool x.sp, .int .i64 x.st] 42)
    have hSA := HG.out _ hbA (box_new (wr := wr) (cs := Al.cs x) (t := 42) (Below.refl _ _))
    have HSA := hidOf hSA
    go_upto_region 8 with (fail)
    obtain ⟨wA, hwA⟩ : ∃ wA, wr.alloc (.cells #[.int .i64 x.id, .int .i64 x.jb, .int .i64 x.ve, .int .i64 x.gr, .int .i64 x.ix, .int .i64 x.nd, .int .i64 x.ep, .int .i64 x.c, .int .i64 x.m, .bool x.sp, .int .i64 x.st] 42) = wA := ⟨_, rfl⟩
    have hzA : wA.heap.size = wr.heap.size + 1 := by rw [← hwA]; simp
    rw [hwA] at hbA HSA ⊢
    clear hwA hSA c0 c1 c2 c3 c4 c5 c6 c7 c8 c9 c10
    have HZA := hidOf hbA
    have lB : wr.heap.size < wA.heap.size := by omega
    have HKEEP : Hid (∀ Z, Below wr.heap.size wr Z → hoK d.id S A (k + 1) = hoK d.id S A k → Hid (MpR Z w.heap.size kS (hoK d.id S A (k + 1))) ∧ Hid (Below w.heap.size w Z) ∧ Hid (Z.cell? ⟨w.heap.size + 1, 0, none⟩ = some (.map (some w.heap.size))) ∧ Hid (Z.heap[D]? = some (.deferred (some []))) ∧ W.heap.size ≤ Z.heap.size) := hidOf fun Z hb he => ⟨hidOf (by rw [he]; exact HMr.out.keep (hb.block _ (by omega))), hidOf (HBr.out.trans (hb.mono HBr.out.size)), hidOf ((hb_cell hb (by omega)).trans HCr.out), hidOf ((hb.block D (by omega)).trans HDr.out), Nat.le_trans hsr hb.size⟩
    have lpA : p < wA.heap.size := by omega
    have lmA : w.heap.size + 1 < wA.heap.size := by omega
    clear hbA hp0
    have e0 : wA.cell? ⟨wr.heap.size, 0, none⟩ = some (.int .i64 x.id) := HSA.out.1 0 _ rfl
    have e1 : wA.cell? ⟨wr.heap.size, 1, none⟩ = some (.int .i64 x.jb) := HSA.out.1 1 _ rfl
    have e2 : wA.cell? ⟨wr.heap.size, 2, none⟩ = some (.int .i64 x.ve) := HSA.out.1 2 _ rfl
    have e3 : wA.cell? ⟨wr.heap.size, 3, none⟩ = some (.int .i64 x.gr) := HSA.out.1 3 _ rfl
    have e4 : wA.cell? ⟨wr.heap.size, 4, none⟩ = some (.int .i64 x.ix) := HSA.out.1 4 _ rfl
    have e5 : wA.cell? ⟨wr.heap.size, 5, none⟩ = some (.int .i64 x.nd) := HSA.out.1 5 _ rfl
    have e6 : wA.cell? ⟨wr.heap.size, 6, none⟩ = some (.int .i64 x.ep) := HSA.out.1 6 _ rfl
    have e7 : wA.cell? ⟨wr.heap.size, 7, none⟩ = some (.int .i64 x.c) := HSA.out.1 7 _ rfl
    have e8 : wA.cell? ⟨wr.heap.size, 8, none⟩ = some (.int .i64 x.m) := HSA.out.1 8 _ rfl
    have e9 : wA.cell? ⟨wr.heap.size, 9, none⟩ = some (.bool x.sp) := HSA.out.1 9 _ rfl
    have e10 : wA.cell? ⟨wr.heap.size, 10, none⟩ = some (.int .i64 x.st) := HSA.out.1 10 _ rfl
    have f0 : wA.cell? ⟨p, 0, none⟩ = some (.int .i64 d.id) := HSA.out.2.1
    have fB : wA.cell? ⟨w.heap.size + 1, 0, none⟩ = some (.map (some w.heap.size)) := HSA.out.2.2
    by_cases hj : x.jb = d.id
    ·have hjb : (x.jb != d.id) = false := by simp [hj]
     have hjc : (x.jb == d.id) = true := by simp [hj]
     have HJ := hidOf hj
     clear hj
     cases hov : ovr x.st with
     | true =>
      have hc1 := over_any x wA.drew
      rw [hov] at hc1
      have HOV := hidOf hc1
      clear hc1
      go_region_held3 (fun Y => Y.cell? ⟨wr.heap.size, 0, none⟩ = some (.int .i64 x.id) ∧ Y.cell? ⟨wr.heap.size, 1, none⟩ = some (.int .i64 x.jb) ∧ Y.cell? ⟨wr.heap.size, 2, none⟩ = some (.int .i64 x.ve) ∧ Y.cell? ⟨wr.heap.size, 3, none⟩ = some (.int .i64 x.gr) ∧ Y.cell? ⟨wr.heap.size, 4, none⟩ = some (.int .i64 x.ix) ∧ Y.cell? ⟨wr.heap.size, 5, none⟩ = some (.int .i64 x.nd) ∧ Y.cell? ⟨wr.heap.size, 6, none⟩ = some (.int .i64 x.ep) ∧ Y.cell? ⟨wr.heap.size, 7, none⟩ = some (.int .i64 x.c) ∧ Y.cell? ⟨wr.heap.size, 8, none⟩ = some (.int .i64 x.m) ∧ Y.cell? ⟨wr.heap.size, 9, none⟩ = some (.bool x.sp) ∧ Y.cell? ⟨wr.heap.size, 10, none⟩ = some (.int .i64 x.st) ∧ Y.cell? ⟨p, 0, none⟩ = some (.int .i64 d.id) ∧ Y.cell? ⟨w.heap.size + 1, 0, none⟩ = some (.map (some w.heap.size))) (first | go_keep | exact KK.out) (first | (go_at_call 49; refine HOV.out.mono ?_; rintro e w1 ⟨rfl, hb⟩; have HBz := hidOf ((bdrew wA).trans hb); have HZ1 := hidOf (HZA.out.trans (HBz.out.mono HZA.out.size)); have HSz := hidOf (HG.out w1 HZ1.out (range_of HSA.out.1 (HBz.out.block _ (by have := HZA.out.size; have := lB; omega)))); have KK : Hid (w1.cell? ⟨wr.heap.size, 0, none⟩ = some (.int .i64 x.id) ∧ w1.cell? ⟨wr.heap.size, 1, none⟩ = some (.int .i64 x.jb) ∧ w1.cell? ⟨wr.heap.size, 2, none⟩ = some (.int .i64 x.ve) ∧ w1.cell? ⟨wr.heap.size, 3, none⟩ = some (.int .i64 x.gr) ∧ w1.cell? ⟨wr.heap.size, 4, none⟩ = some (.int .i64 x.ix) ∧ w1.cell? ⟨wr.heap.size, 5, none⟩ = some (.int .i64 x.nd) ∧ w1.cell? ⟨wr.heap.size, 6, none⟩ = some (.int .i64 x.ep) ∧ w1.cell? ⟨wr.heap.size, 7, none⟩ = some (.int .i64 x.c) ∧ w1.cell? ⟨wr.heap.size, 8, none⟩ = some (.int .i64 x.m) ∧ w1.cell? ⟨wr.heap.size, 9, none⟩ = some (.bool x.sp) ∧ w1.cell? ⟨wr.heap.size, 10, none⟩ = some (.int .i64 x.st) ∧ w1.cell? ⟨p, 0, none⟩ = some (.int .i64 d.id) ∧ w1.cell? ⟨w.heap.size + 1, 0, none⟩ = some (.map (some w.heap.size))) := hidOf ⟨HSz.out.1 0 _ rfl, HSz.out.1 1 _ rfl, HSz.out.1 2 _ rfl, HSz.out.1 3 _ rfl, HSz.out.1 4 _ rfl, HSz.out.1 5 _ rfl, HSz.out.1 6 _ rfl, HSz.out.1 7 _ rfl, HSz.out.1 8 _ rfl, HSz.out.1 9 _ rfl, HSz.out.1 10 _ rfl, HSz.out.2.1, HSz.out.2.2⟩; clear hb e0 e1 e2 e3 e4 e5 e6 e7 e8 e9 e10 f0 fB))
      go_wp2
      go_roundw
      case rel => exact ⟨k + 1, by omega, by simp, HKEEP.out _ HZ1.out (HNO.out (fun q _ _ => by simp [slB, hov]))⟩
      case measure => simp [intOf]; omega
     | false =>
      have hc1 := over_any x wA.drew
      rw [hov] at hc1
      have HOV := hidOf hc1
      clear hc1
      go_region_held3 (fun Y => Y.cell? ⟨wr.heap.size, 0, none⟩ = some (.int .i64 x.id) ∧ Y.cell? ⟨wr.heap.size, 1, none⟩ = some (.int .i64 x.jb) ∧ Y.cell? ⟨wr.heap.size, 2, none⟩ = some (.int .i64 x.ve) ∧ Y.cell? ⟨wr.heap.size, 3, none⟩ = some (.int .i64 x.gr) ∧ Y.cell? ⟨wr.heap.size, 4, none⟩ = some (.int .i64 x.ix) ∧ Y.cell? ⟨wr.heap.size, 5, none⟩ = some (.int .i64 x.nd) ∧ Y.cell? ⟨wr.heap.size, 6, none⟩ = some (.int .i64 x.ep) ∧ Y.cell? ⟨wr.heap.size, 7, none⟩ = some (.int .i64 x.c) ∧ Y.cell? ⟨wr.heap.size, 8, none⟩ = some (.int .i64 x.m) ∧ Y.cell? ⟨wr.heap.size, 9, none⟩ = some (.bool x.sp) ∧ Y.cell? ⟨wr.heap.size, 10, none⟩ = some (.int .i64 x.st) ∧ Y.cell? ⟨p, 0, none⟩ = some (.int .i64 d.id) ∧ Y.cell? ⟨w.heap.size + 1, 0, none⟩ = some (.map (some w.heap.size))) (first | go_keep | exact KK.out) (first | (go_at_call 49; refine HOV.out.mono ?_; rintro e w1 ⟨rfl, hb⟩; have HBz := hidOf ((bdrew wA).trans hb); have HZ1 := hidOf (HZA.out.trans (HBz.out.mono HZA.out.size)); have HSz := hidOf (HG.out w1 HZ1.out (range_of HSA.out.1 (HBz.out.block _ (by have := HZA.out.size; have := lB; omega)))); have KK : Hid (w1.cell? ⟨wr.heap.size, 0, none⟩ = some (.int .i64 x.id) ∧ w1.cell? ⟨wr.heap.size, 1, none⟩ = some (.int .i64 x.jb) ∧ w1.cell? ⟨wr.heap.size, 2, none⟩ = some (.int .i64 x.ve) ∧ w1.cell? ⟨wr.heap.size, 3, none⟩ = some (.int .i64 x.gr) ∧ w1.cell? ⟨wr.heap.size, 4, none⟩ = some (.int .i64 x.ix) ∧ w1.cell? ⟨wr.heap.size, 5, none⟩ = some (.int .i64 x.nd) ∧ w1.cell? ⟨wr.heap.size, 6, none⟩ = some (.int .i64 x.ep) ∧ w1.cell? ⟨wr.heap.size, 7, none⟩ = some (.int .i64 x.c) ∧ w1.cell? ⟨wr.heap.size, 8, none⟩ = some (.int .i64 x.m) ∧ w1.cell? ⟨wr.heap.size, 9, none⟩ = some (.bool x.sp) ∧ w1.cell? ⟨wr.heap.size, 10, none⟩ = some (.int .i64 x.st) ∧ w1.cell? ⟨p, 0, none⟩ = some (.int .i64 d.id) ∧ w1.cell? ⟨w.heap.size + 1, 0, none⟩ = some (.map (some w.heap.size))) := hidOf ⟨HSz.out.1 0 _ rfl, HSz.out.1 1 _ rfl, HSz.out.1 2 _ rfl, HSz.out.1 3 _ rfl, HSz.out.1 4 _ rfl, HSz.out.1 5 _ rfl, HSz.out.1 6 _ rfl, HSz.out.1 7 _ rfl, HSz.out.1 8 _ rfl, HSz.out.1 9 _ rfl, HSz.out.1 10 _ rfl, HSz.out.2.1, HSz.out.2.2⟩; clear hb e0 e1 e2 e3 e4 e5 e6 e7 e8 e9 e10 f0 fB))
      obtain ⟨W5, hW5⟩ : ∃ yy, yy = w1 := ⟨_, rfl⟩
      rw [← hW5] at HZ1 HSz ⊢
      clear hW5 HBz KK HOV
      have HZ5 := HZ1
      have HS5 := HSz
      clear HZ1 HSz
      have lB5 : wr.heap.size < W5.heap.size := by have := HS5.out.1 0 _ rfl; exact lt_of_cell this
      have lp5 : p < W5.heap.size := by omega
      have lm5 : w.heap.size + 1 < W5.heap.size := by omega
      have e0 : W5.cell? ⟨wr.heap.size, 0, none⟩ = some (.int .i64 x.id) := HS5.out.1 0 _ rfl
      have e1 : W5.cell? ⟨wr.heap.size, 1, none⟩ = some (.int .i64 x.jb) := HS5.out.1 1 _ rfl
      have e2 : W5.cell? ⟨wr.heap.size, 2, none⟩ = some (.int .i64 x.ve) := HS5.out.1 2 _ rfl
      have e3 : W5.cell? ⟨wr.heap.size, 3, none⟩ = some (.int .i64 x.gr) := HS5.out.1 3 _ rfl
      have e4 : W5.cell? ⟨wr.heap.size, 4, none⟩ = some (.int .i64 x.ix) := HS5.out.1 4 _ rfl
      have e5 : W5.cell? ⟨wr.heap.size, 5, none⟩ = some (.int .i64 x.nd) := HS5.out.1 5 _ rfl
      have e6 : W5.cell? ⟨wr.heap.size, 6, none⟩ = some (.int .i64 x.ep) := HS5.out.1 6 _ rfl
      have e7 : W5.cell? ⟨wr.heap.size, 7, none⟩ = some (.int .i64 x.c) := HS5.out.1 7 _ rfl
      have e8 : W5.cell? ⟨wr.heap.size, 8, none⟩ = some (.int .i64 x.m) := HS5.out.1 8 _ rfl
      have e9 : W5.cell? ⟨wr.heap.size, 9, none⟩ = some (.bool x.sp) := HS5.out.1 9 _ rfl
      have e10 : W5.cell? ⟨wr.heap.size, 10, none⟩ = some (.int .i64 x.st) := HS5.out.1 10 _ rfl
      have f0 : W5.cell? ⟨p, 0, none⟩ = some (.int .i64 d.id) := HS5.out.2.1
      have fB : W5.cell? ⟨w.heap.size + 1, 0, none⟩ = some (.map (some w.heap.size)) := HS5.out.2.2
      have HSO := hidOf (slotOf_any x W5.drew)
      go_upto_region 9 with (fail)
      by_cases hm : (x.gr, x.ix) ∈ S
      ·by_cases hm1 : fiK (slB d.id x.gr x.ix) A k = -1
       ·have HM1 := hidOf hm1
        clear hm1
        go_region_held3 (fun Y => Y.cell? ⟨wr.heap.size, 0, none⟩ = some (.int .i64 x.id) ∧ Y.cell? ⟨wr.heap.size, 1, none⟩ = some (.int .i64 x.jb) ∧ Y.cell? ⟨wr.heap.size, 2, none⟩ = some (.int .i64 x.ve) ∧ Y.cell? ⟨wr.heap.size, 3, none⟩ = some (.int .i64 x.gr) ∧ Y.cell? ⟨wr.heap.size, 4, none⟩ = some (.int .i64 x.ix) ∧ Y.cell? ⟨wr.heap.size, 5, none⟩ = some (.int .i64 x.nd) ∧ Y.cell? ⟨wr.heap.size, 6, none⟩ = some (.int .i64 x.ep) ∧ Y.cell? ⟨wr.heap.size, 7, none⟩ = some (.int .i64 x.c) ∧ Y.cell? ⟨wr.heap.size, 8, none⟩ = some (.int .i64 x.m) ∧ Y.cell? ⟨wr.heap.size, 9, none⟩ = some (.bool x.sp) ∧ Y.cell? ⟨wr.heap.size, 10, none⟩ = some (.int .i64 x.st) ∧ Y.cell? ⟨p, 0, none⟩ = some (.int .i64 d.id) ∧ Y.cell? ⟨w.heap.size + 1, 0, none⟩ = some (.map (some w.heap.size))) (first | go_keep | exact KK.out) (first | (go_at_call 50; refine HSO.out.mono ?_; rintro e w1 ⟨rfl, hb⟩; have HBz := hidOf ((bdrew W5).trans hb); have HZ1 := hidOf (HZ5.out.trans (HBz.out.mono HZ5.out.size)); have HSz := hidOf (HG.out w1 HZ1.out (range_of HS5.out.1 (HBz.out.block _ (by have := HZ5.out.size; have := lB5; omega)))); have KK : Hid (w1.cell? ⟨wr.heap.size, 0, none⟩ = some (.int .i64 x.id) ∧ w1.cell? ⟨wr.heap.size, 1, none⟩ = some (.int .i64 x.jb) ∧ w1.cell? ⟨wr.heap.size, 2, none⟩ = some (.int .i64 x.ve) ∧ w1.cell? ⟨wr.heap.size, 3, none⟩ = some (.int .i64 x.gr) ∧ w1.cell? ⟨wr.heap.size, 4, none⟩ = some (.int .i64 x.ix) ∧ w1.cell? ⟨wr.heap.size, 5, none⟩ = some (.int .i64 x.nd) ∧ w1.cell? ⟨wr.heap.size, 6, none⟩ = some (.int .i64 x.ep) ∧ w1.cell? ⟨wr.heap.size, 7, none⟩ = some (.int .i64 x.c) ∧ w1.cell? ⟨wr.heap.size, 8, none⟩ = some (.int .i64 x.m) ∧ w1.cell? ⟨wr.heap.size, 9, none⟩ = some (.bool x.sp) ∧ w1.cell? ⟨wr.heap.size, 10, none⟩ = some (.int .i64 x.st) ∧ w1.cell? ⟨p, 0, none⟩ = some (.int .i64 d.id) ∧ w1.cell? ⟨w.heap.size + 1, 0, none⟩ = some (.map (some w.heap.size))) := hidOf ⟨HSz.out.1 0 _ rfl, HSz.out.1 1 _ rfl, HSz.out.1 2 _ rfl, HSz.out.1 3 _ rfl, HSz.out.1 4 _ rfl, HSz.out.1 5 _ rfl, HSz.out.1 6 _ rfl, HSz.out.1 7 _ rfl, HSz.out.1 8 _ rfl, HSz.out.1 9 _ rfl, HSz.out.1 10 _ rfl, HSz.out.2.1, HSz.out.2.2⟩; have hlk := hoK_look (HMr.out.keep (HZ1.out.block w.heap.size (by omega))) x.gr x.ix true; rw [if_pos rfl] at hlk; rw [if_pos hm, decide_eq_true hm, HM1.out] at hlk; clear hb e0 e1 e2 e3 e4 e5 e6 e7 e8 e9 e10 f0 fB))
        obtain ⟨W6, hW6⟩ : ∃ yy, yy = w1 := ⟨_, rfl⟩
        have HZ6 : Hid (Below wr.heap.size wr W6) := hidOf (by rw [hW6]; exact HZ1.out)
        have HS6 : Hid (hS x wr.heap.size p w.heap.size d.id W6) := hidOf (by rw [hW6]; exact HSz.out)
        rw [← hW6]
        clear hW6 HBz KK HSO HZ1 HSz hlk
        have lB6 : wr.heap.size < W6.heap.size := lt_of_cell (HS6.out.1 0 _ rfl)
        have lp6 : p < W6.heap.size := by omega
        have lm6 : w.heap.size + 1 < W6.heap.size := by omega
        have e0 : W6.cell? ⟨wr.heap.size, 0, none⟩ = some (.int .i64 x.id) := HS6.out.1 0 _ rfl
        have e1 : W6.cell? ⟨wr.heap.size, 1, none⟩ = some (.int .i64 x.jb) := HS6.out.1 1 _ rfl
        have e2 : W6.cell? ⟨wr.heap.size, 2, none⟩ = some (.int .i64 x.ve) := HS6.out.1 2 _ rfl
        have e3 : W6.cell? ⟨wr.heap.size, 3, none⟩ = some (.int .i64 x.gr) := HS6.out.1 3 _ rfl
        have e4 : W6.cell? ⟨wr.heap.size, 4, none⟩ = some (.int .i64 x.ix) := HS6.out.1 4 _ rfl
        have e5 : W6.cell? ⟨wr.heap.size, 5, none⟩ = some (.int .i64 x.nd) := HS6.out.1 5 _ rfl
        have e6 : W6.cell? ⟨wr.heap.size, 6, none⟩ = some (.int .i64 x.ep) := HS6.out.1 6 _ rfl
        have e7 : W6.cell? ⟨wr.heap.size, 7, none⟩ = some (.int .i64 x.c) := HS6.out.1 7 _ rfl
        have e8 : W6.cell? ⟨wr.heap.size, 8, none⟩ = some (.int .i64 x.m) := HS6.out.1 8 _ rfl
        have e9 : W6.cell? ⟨wr.heap.size, 9, none⟩ = some (.bool x.sp) := HS6.out.1 9 _ rfl
        have e10 : W6.cell? ⟨wr.heap.size, 10, none⟩ = some (.int .i64 x.st) := HS6.out.1 10 _ rfl
        have f0 : W6.cell? ⟨p, 0, none⟩ = some (.int .i64 d.id) := HS6.out.2.1
        have fB : W6.cell? ⟨w.heap.size + 1, 0, none⟩ = some (.map (some w.heap.size)) := HS6.out.2.2
        have HSO := hidOf (slotOf_any x W6.drew)
        go_upto_region 11 with (fail)
        go_region_held3 (fun Y => Y.cell? ⟨wr.heap.size, 0, none⟩ = some (.int .i64 x.id) ∧ Y.cell? ⟨wr.heap.size, 1, none⟩ = some (.int .i64 x.jb) ∧ Y.cell? ⟨wr.heap.size, 2, none⟩ = some (.int .i64 x.ve) ∧ Y.cell? ⟨wr.heap.size, 3, none⟩ = some (.int .i64 x.gr) ∧ Y.cell? ⟨wr.heap.size, 4, none⟩ = some (.int .i64 x.ix) ∧ Y.cell? ⟨wr.heap.size, 5, none⟩ = some (.int .i64 x.nd) ∧ Y.cell? ⟨wr.heap.size, 6, none⟩ = some (.int .i64 x.ep) ∧ Y.cell? ⟨wr.heap.size, 7, none⟩ = some (.int .i64 x.c) ∧ Y.cell? ⟨wr.heap.size, 8, none⟩ = some (.int .i64 x.m) ∧ Y.cell? ⟨wr.heap.size, 9, none⟩ = some (.bool x.sp) ∧ Y.cell? ⟨wr.heap.size, 10, none⟩ = some (.int .i64 x.st) ∧ Y.cell? ⟨p, 0, none⟩ = some (.int .i64 d.id) ∧ Y.cell? ⟨w.heap.size + 1, 0, none⟩ = some (.map (some w.heap.size))) (first | go_keep | exact KK.out | exact K3.out) (first | (go_at_call 50; refine HSO.out.mono ?_; rintro e w1 ⟨rfl, hb⟩; have HBz := hidOf ((bdrew W6).trans hb); have HZ1 := hidOf (HZ6.out.trans (HBz.out.mono HZ6.out.size)); have HSz := hidOf (HG.out w1 HZ1.out (range_of HS6.out.1 (HBz.out.block _ (by have := HZ6.out.size; have := lB6; omega)))); have KK : Hid (w1.cell? ⟨wr.heap.size, 0, none⟩ = some (.int .i64 x.id) ∧ w1.cell? ⟨wr.heap.size, 1, none⟩ = some (.int .i64 x.jb) ∧ w1.cell? ⟨wr.heap.size, 2, none⟩ = some (.int .i64 x.ve) ∧ w1.cell? ⟨wr.heap.size, 3, none⟩ = some (.int .i64 x.gr) ∧ w1.cell? ⟨wr.heap.size, 4, none⟩ = some (.int .i64 x.ix) ∧ w1.cell? ⟨wr.heap.size, 5, none⟩ = some (.int .i64 x.nd) ∧ w1.cell? ⟨wr.heap.size, 6, none⟩ = some (.int .i64 x.ep) ∧ w1.cell? ⟨wr.heap.size, 7, none⟩ = some (.int .i64 x.c) ∧ w1.cell? ⟨wr.heap.size, 8, none⟩ = some (.int .i64 x.m) ∧ w1.cell? ⟨wr.heap.size, 9, none⟩ = some (.bool x.sp) ∧ w1.cell? ⟨wr.heap.size, 10, none⟩ = some (.int .i64 x.st) ∧ w1.cell? ⟨p, 0, none⟩ = some (.int .i64 d.id) ∧ w1.cell? ⟨w.heap.size + 1, 0, none⟩ = some (.map (some w.heap.size))) := hidOf ⟨HSz.out.1 0 _ rfl, HSz.out.1 1 _ rfl, HSz.out.1 2 _ rfl, HSz.out.1 3 _ rfl, HSz.out.1 4 _ rfl, HSz.out.1 5 _ rfl, HSz.out.1 6 _ rfl, HSz.out.1 7 _ rfl, HSz.out.1 8 _ rfl, HSz.out.1 9 _ rfl, HSz.out.1 10 _ rfl, HSz.out.2.1, HSz.out.2.2⟩; obtain ⟨w3, hrun, hm3, hs3, hz3, hg3⟩ := (HMr.out.keep (HZ1.out.block w.heap.size (by omega))).up kyS Try.underlying90 (x.gr, x.ix) (.int .i64 (k : Int)); have hrun2 : (Instr.mapUpdate 90 (.map (some w.heap.size)) (.agg #[.int .i64 x.gr, .int .i64 x.ix]) (.int .i64 (k : Int))).run Try.prog w1 = .ok () w3 := hrun; have HS3 : Hid (hS x wr.heap.size p w.heap.size d.id w3) := hidOf ⟨range_of HSz.out.1 (hs3 _ (by omega)), (World.cell?_of_block (hs3 p (by omega))).trans HSz.out.2.1, (World.cell?_of_block (hs3 (w.heap.size + 1) (by omega))).trans HSz.out.2.2⟩; have K3 : Hid (w3.cell? ⟨wr.heap.size, 0, none⟩ = some (.int .i64 x.id) ∧ w3.cell? ⟨wr.heap.size, 1, none⟩ = some (.int .i64 x.jb) ∧ w3.cell? ⟨wr.heap.size, 2, none⟩ = some (.int .i64 x.ve) ∧ w3.cell? ⟨wr.heap.size, 3, none⟩ = some (.int .i64 x.gr) ∧ w3.cell? ⟨wr.heap.size, 4, none⟩ = some (.int .i64 x.ix) ∧ w3.cell? ⟨wr.heap.size, 5, none⟩ = some (.int .i64 x.nd) ∧ w3.cell? ⟨wr.heap.size, 6, none⟩ = some (.int .i64 x.ep) ∧ w3.cell? ⟨wr.heap.size, 7, none⟩ = some (.int .i64 x.c) ∧ w3.cell? ⟨wr.heap.size, 8, none⟩ = some (.int .i64 x.m) ∧ w3.cell? ⟨wr.heap.size, 9, none⟩ = some (.bool x.sp) ∧ w3.cell? ⟨wr.heap.size, 10, none⟩ = some (.int .i64 x.st) ∧ w3.cell? ⟨p, 0, none⟩ = some (.int .i64 d.id) ∧ w3.cell? ⟨w.heap.size + 1, 0, none⟩ = some (.map (some w.heap.size))) := hidOf ⟨HS3.out.1 0 _ rfl, HS3.out.1 1 _ rfl, HS3.out.1 2 _ rfl, HS3.out.1 3 _ rfl, HS3.out.1 4 _ rfl, HS3.out.1 5 _ rfl, HS3.out.1 6 _ rfl, HS3.out.1 7 _ rfl, HS3.out.1 8 _ rfl, HS3.out.1 9 _ rfl, HS3.out.1 10 _ rfl, HS3.out.2.1, HS3.out.2.2⟩; have HM3 := hidOf hm3; have HH3 := hidOf hs3; have HG3 := hidOf hg3; have HZ3 := hidOf hz3; clear hrun hm3 hs3 hg3 hz3; clear hb e0 e1 e2 e3 e4 e5 e6 e7 e8 e9 e10 f0 fB))
        go_wp2
        have hz3 := HZ3.out
        have hz1' := HZ1.out.size
        go_roundw
        case rel => exact ⟨k + 1, by omega, by simp, hidOf (by rw [← HYES.out hm HJ.out hov HM1.out]; exact HM3.out), hidOf ((HBr.out.trans (HZ1.out.mono HBr.out.size)).grown HG3.out (by omega) (fun q e => by cases e; exact Nat.le_refl _)), hidOf HS3.out.2.2, hidOf ((HH3.out D (by omega)).trans ((HZ1.out.block D (by omega)).trans HDr.out)), by omega⟩
        case measure => simp [intOf]; omega
       ·have HM1 := hidOf hm1
        have hq : (fiK (slB d.id x.gr x.ix) A k == -1) = false := by simp [hm1]
        clear hm1
        obtain ⟨v, hv⟩ : ∃ v, fiK (slB d.id x.gr x.ix) A k = v := ⟨_, rfl⟩
        rw [hv] at hq
        have HV := hidOf hv
        clear hv
        go_region_held3 (fun Y => Y.cell? ⟨wr.heap.size, 0, none⟩ = some (.int .i64 x.id) ∧ Y.cell? ⟨wr.heap.size, 1, none⟩ = some (.int .i64 x.jb) ∧ Y.cell? ⟨wr.heap.size, 2, none⟩ = some (.int .i64 x.ve) ∧ Y.cell? ⟨wr.heap.size, 3, none⟩ = some (.int .i64 x.gr) ∧ Y.cell? ⟨wr.heap.size, 4, none⟩ = some (.int .i64 x.ix) ∧ Y.cell? ⟨wr.heap.size, 5, none⟩ = some (.int .i64 x.nd) ∧ Y.cell? ⟨wr.heap.size, 6, none⟩ = some (.int .i64 x.ep) ∧ Y.cell? ⟨wr.heap.size, 7, none⟩ = some (.int .i64 x.c) ∧ Y.cell? ⟨wr.heap.size, 8, none⟩ = some (.int .i64 x.m) ∧ Y.cell? ⟨wr.heap.size, 9, none⟩ = some (.bool x.sp) ∧ Y.cell? ⟨wr.heap.size, 10, none⟩ = some (.int .i64 x.st) ∧ Y.cell? ⟨p, 0, none⟩ = some (.int .i64 d.id) ∧ Y.cell? ⟨w.heap.size + 1, 0, none⟩ = some (.map (some w.heap.size))) (first | go_keep | exact KK.out) (first | (go_at_call 50; refine HSO.out.mono ?_; rintro e w1 ⟨rfl, hb⟩; have HBz := hidOf ((bdrew W5).trans hb); have HZ1 := hidOf (HZ5.out.trans (HBz.out.mono HZ5.out.size)); have HSz := hidOf (HG.out w1 HZ1.out (range_of HS5.out.1 (HBz.out.block _ (by have := HZ5.out.size; have := lB5; omega)))); have KK : Hid (w1.cell? ⟨wr.heap.size, 0, none⟩ = some (.int .i64 x.id) ∧ w1.cell? ⟨wr.heap.size, 1, none⟩ = some (.int .i64 x.jb) ∧ w1.cell? ⟨wr.heap.size, 2, none⟩ = some (.int .i64 x.ve) ∧ w1.cell? ⟨wr.heap.size, 3, none⟩ = some (.int .i64 x.gr) ∧ w1.cell? ⟨wr.heap.size, 4, none⟩ = some (.int .i64 x.ix) ∧ w1.cell? ⟨wr.heap.size, 5, none⟩ = some (.int .i64 x.nd) ∧ w1.cell? ⟨wr.heap.size, 6, none⟩ = some (.int .i64 x.ep) ∧ w1.cell? ⟨wr.heap.size, 7, none⟩ = some (.int .i64 x.c) ∧ w1.cell? ⟨wr.heap.size, 8, none⟩ = some (.int .i64 x.m) ∧ w1.cell? ⟨wr.heap.size, 9, none⟩ = some (.bool x.sp) ∧ w1.cell? ⟨wr.heap.size, 10, none⟩ = some (.int .i64 x.st) ∧ w1.cell? ⟨p, 0, none⟩ = some (.int .i64 d.id) ∧ w1.cell? ⟨w.heap.size + 1, 0, none⟩ = some (.map (some w.heap.size))) := hidOf ⟨HSz.out.1 0 _ rfl, HSz.out.1 1 _ rfl, HSz.out.1 2 _ rfl, HSz.out.1 3 _ rfl, HSz.out.1 4 _ rfl, HSz.out.1 5 _ rfl, HSz.out.1 6 _ rfl, HSz.out.1 7 _ rfl, HSz.out.1 8 _ rfl, HSz.out.1 9 _ rfl, HSz.out.1 10 _ rfl, HSz.out.2.1, HSz.out.2.2⟩; have hlk := hoK_look (HMr.out.keep (HZ1.out.block w.heap.size (by omega))) x.gr x.ix true; rw [if_pos rfl] at hlk; rw [if_pos hm, decide_eq_true hm, HV.out] at hlk; clear hb e0 e1 e2 e3 e4 e5 e6 e7 e8 e9 e10 f0 fB))
        go_wp2
        go_roundw
        case rel => exact ⟨k + 1, by omega, by simp, HKEEP.out _ HZ1.out (HNO.out (fun q hq hf => by cases hb : slB d.id q.1 q.2 x with | false => rfl | true => (simp [slB, isI] at hb; exact absurd (show fiK (slB d.id x.gr x.ix) A k = -1 by rw [hb.2.1, hb.2.2.1]; exact hf) HM1.out)))⟩
        case measure => simp [intOf]; omega
      ·have HMN := hidOf hm
       go_region_held3 (fun Y => Y.cell? ⟨wr.heap.size, 0, none⟩ = some (.int .i64 x.id) ∧ Y.cell? ⟨wr.heap.size, 1, none⟩ = some (.int .i64 x.jb) ∧ Y.cell? ⟨wr.heap.size, 2, none⟩ = some (.int .i64 x.ve) ∧ Y.cell? ⟨wr.heap.size, 3, none⟩ = some (.int .i64 x.gr) ∧ Y.cell? ⟨wr.heap.size, 4, none⟩ = some (.int .i64 x.ix) ∧ Y.cell? ⟨wr.heap.size, 5, none⟩ = some (.int .i64 x.nd) ∧ Y.cell? ⟨wr.heap.size, 6, none⟩ = some (.int .i64 x.ep) ∧ Y.cell? ⟨wr.heap.size, 7, none⟩ = some (.int .i64 x.c) ∧ Y.cell? ⟨wr.heap.size, 8, none⟩ = some (.int .i64 x.m) ∧ Y.cell? ⟨wr.heap.size, 9, none⟩ = some (.bool x.sp) ∧ Y.cell? ⟨wr.heap.size, 10, none⟩ = some (.int .i64 x.st) ∧ Y.cell? ⟨p, 0, none⟩ = some (.int .i64 d.id) ∧ Y.cell? ⟨w.heap.size + 1, 0, none⟩ = some (.map (some w.heap.size))) (first | go_keep | exact KK.out) (first | (go_at_call 50; refine HSO.out.mono ?_; rintro e w1 ⟨rfl, hb⟩; have HBz := hidOf ((bdrew W5).trans hb); have HZ1 := hidOf (HZ5.out.trans (HBz.out.mono HZ5.out.size)); have HSz := hidOf (HG.out w1 HZ1.out (range_of HS5.out.1 (HBz.out.block _ (by have := HZ5.out.size; have := lB5; omega)))); have KK : Hid (w1.cell? ⟨wr.heap.size, 0, none⟩ = some (.int .i64 x.id) ∧ w1.cell? ⟨wr.heap.size, 1, none⟩ = some (.int .i64 x.jb) ∧ w1.cell? ⟨wr.heap.size, 2, none⟩ = some (.int .i64 x.ve) ∧ w1.cell? ⟨wr.heap.size, 3, none⟩ = some (.int .i64 x.gr) ∧ w1.cell? ⟨wr.heap.size, 4, none⟩ = some (.int .i64 x.ix) ∧ w1.cell? ⟨wr.heap.size, 5, none⟩ = some (.int .i64 x.nd) ∧ w1.cell? ⟨wr.heap.size, 6, none⟩ = some (.int .i64 x.ep) ∧ w1.cell? ⟨wr.heap.size, 7, none⟩ = some (.int .i64 x.c) ∧ w1.cell? ⟨wr.heap.size, 8, none⟩ = some (.int .i64 x.m) ∧ w1.cell? ⟨wr.heap.size, 9, none⟩ = some (.bool x.sp) ∧ w1.cell? ⟨wr.heap.size, 10, none⟩ = some (.int .i64 x.st) ∧ w1.cell? ⟨p, 0, none⟩ = some (.int .i64 d.id) ∧ w1.cell? ⟨w.heap.size + 1, 0, none⟩ = some (.map (some w.heap.size))) := hidOf ⟨HSz.out.1 0 _ rfl, HSz.out.1 1 _ rfl, HSz.out.1 2 _ rfl, HSz.out.1 3 _ rfl, HSz.out.1 4 _ rfl, HSz.out.1 5 _ rfl, HSz.out.1 6 _ rfl, HSz.out.1 7 _ rfl, HSz.out.1 8 _ rfl, HSz.out.1 9 _ rfl, HSz.out.1 10 _ rfl, HSz.out.2.1, HSz.out.2.2⟩; have hlk := hoK_look (HMr.out.keep (HZ1.out.block w.heap.size (by omega))) x.gr x.ix true; rw [if_pos rfl] at hlk; rw [if_neg hm, decide_eq_false hm] at hlk; clear hb e0 e1 e2 e3 e4 e5 e6 e7 e8 e9 e10 f0 fB))
       go_wp2
       go_roundw
       case rel => exact ⟨k + 1, by omega, by simp, HKEEP.out _ HZ1.out (HNO.out (fun q hq _ => by cases hb : slB d.id q.1 q.2 x with | false => rfl | true => (simp [slB, isI] at hb; exact absurd (show (x.gr, x.ix) ∈ S by rw [hb.2.1, hb.2.2.1]; exact hq) hm)))⟩
       case measure => simp [intOf]; omega
    ·have hjb : (x.jb != d.id) = true := by simp [hj]
     have hjc : (x.jb == d.id) = false := by simp [hj]
     refine wp_region_held_drew (S := fun (Y : World) => Y.cell? ⟨wr.heap.size, 1, none⟩ = some (.int .i64 x.jb) ∧ Y.cell? ⟨p, 0, none⟩ = some (.int .i64 d.id)) (by kernel_rfl) ⟨e1, f0⟩ (fun hHeld => ?_)
     refine tkH 0 oXv_0 27 (.pointer (some ⟨wr.heap.size, 1, none⟩)) hHeld (by intro w hS; dsimp only [oXv_0] at hS ⊢; go_simp) ?_
     try simp only [pA, pC, pD]
     refine tkH 1 oXv_1 28 (.int .i64 x.jb) hHeld (by intro w hS; dsimp only [oXv_1] at hS ⊢; go_simp) ?_
     try simp only [pA, pC, pD]
     refine tkH 2 oXv_2 29 (.pointer (some ⟨p, 0, none⟩)) hHeld (by intro w hS; dsimp only [oXv_2] at hS ⊢; go_simp) ?_
     try simp only [pA, pC, pD]
     refine tkH 3 oXv_3 30 (.pointer (some ⟨p, 0, none⟩)) hHeld (by intro w hS; dsimp only [oXv_3] at hS ⊢; go_simp) ?_
     try simp only [pA, pC, pD]
     refine tkH 4 oXv_4 31 (.pointer (some ⟨p, 0, none⟩)) hHeld (by intro w hS; dsimp only [oXv_4] at hS ⊢; go_simp) ?_
     try simp only [pA, pC, pD]
     refine tkH 5 oXv_5 32 (.pointer (some ⟨p, 0, none⟩)) hHeld (by intro w hS; dsimp only [oXv_5] at hS ⊢; go_simp) ?_
     try simp only [pA, pC, pD]
     refine tkH 6 oXv_6 33 (.int .i64 d.id) hHeld (by intro w hS; dsimp only [oXv_6] at hS ⊢; go_simp) ?_
     try simp only [pA, pC, pD]
     refine tkH 7 oXv_7 34 (.bool true) hHeld (by intro w hS; dsimp only [oXv_7] at hS ⊢; go_simp) ?_
     try simp only [pA, pC, pD]
     refine tkH 8 oXv_8 35 (.bool true) hHeld (by intro w hS; dsimp only [oXv_8] at hS ⊢; go_simp) ?_
     try simp only [pA, pC, pD]
     refine tkN 9 oXv_9 36 hHeld ?_
     try simp only [pA, pC, pD]
     refine tkN 10 oXv_10 37 hHeld ?_
     try simp only [pA, pC, pD]
     refine tkH 11 oXv_11 38 (.bool true) hHeld (by intro w hS; dsimp only [oXv_11] at hS ⊢; go_simp) ?_
     try simp only [pA, pC, pD]
     refine wpAnyH_done (by kernel_rfl) ?_ _
     go_wp2
     go_roundw
     case rel => exact ⟨k + 1, by omega, by simp, HKEEP.out _ (HZA.out.trans ((bdrew wA).mono HZA.out.size)) (HNO.out (fun q _ _ => by simp [slB, isI, hj]))⟩
     case measure => simp [intOf]; omega
   ·have hkl : k = A.length := by omega
    subst hkl
    have hcF := HCr.out
    have lmF : w.heap.size + 1 < wr.heap.size := by omega
    go_wp2
    refine hK13 _ _ ?_
    gi_wp2
    refine ⟨by simp, .inl ⟨_, _, rfl, run_takeDeferred HDr.out, ?_⟩⟩
    refine ⟨_, results_tmp rfl _ _ _, rfl, HMr.out.keep (put_same _ (by omega)), HBr.out.trans (belowK_b (w := w) (Nat.le_refl _) wr D _ _ (by omega) HDr.out rfl rfl)⟩
 case stop =>
  intro D O' pre W _ _ _ _ h
  exact h.elim
end Go.Proofs.Ytblofbdncolikaa
