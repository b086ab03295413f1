/- Tick. -/
import Derived.Test.YtkienmncifonnaaDoorMg1
import Derived.Test.YtkienmncifonnaaDoorMg2
import Derived.Deep.DeepMust
namespace Go.Proofs.YtkienmncifonnaaDoor
open Go.RowKit Go.Maps
variable {D : Nat} {w w' : World} {p : Nat} {s : Sg} {n c pd : Nat} {mv : Value} {G : Nat → Prop}
/- what a message is -/
def MgX (s : Sg) (X : Array Value) : Prop :=
  if s.a.ep = 0 then X = mgC 9 (100 + s.a.id) (srT s.a) s.a.bt 5 s.a.id s.a.c1 s.a.c2 s.a.bt 0 0 nilS
  else ∃ a l k, X = mgC 9 (100 + s.a.id) (srT s.a) (s.a.bs + 1) 6 s.a.id 0 0 0 s.a.ep (s.a.bs + 1) (.slice a l k)
def mgS (s : Sg) : Sg := if s.a.ep = 0 then { s with a := srA s.a } else { s with a := sdA (srA s.a) s.a.ck }
structure SgB (s : Sg) (B : Int) : Prop where
  id : 0 ≤ s.a.id ∧ s.a.id ≤ 4
  sv : 1 ≤ s.a.sv ∧ s.a.sv ≤ 5
  sn : 0 ≤ s.a.sn ∧ s.a.sn ≤ B
  ck : 0 ≤ s.a.ck ∧ s.a.ck ≤ B
  bs : 0 ≤ s.a.bs ∧ s.a.bs ≤ B
  f : (s.f : Int) ≤ B
  ok : TkOk s.T
theorem message_any (h : AgS D w p s n c) {B : Int} (hB : SgB s B) (hb : B ≤ 1099511627776) (hn : n ≤ 1099511627776) :
    Calls Tryd.prog 20 #[.pointer (some ⟨p, 0, none⟩)] w fun e w' => ∃ X, MgX s X ∧ e = .returned (.agg X) ∧ AgS D w' p (mgS s) n c ∧ FrA D w w' := by
  unfold MgX mgS
  by_cases he : s.a.ep = 0
  · simp only [if_pos he]
    refine (regm_any h he hB.id hB.sv ⟨hB.sn.1, by have := hB.sn.2; omega⟩).mono ?_
    rintro e w1 ⟨he, ha, hf⟩
    exact ⟨_, rfl, he, ha, hf⟩
  · simp only [if_neg he]
    refine (beatm_any h he hB.id hB.sv ⟨hB.sn.1, by have := hB.sn.2; omega⟩ ⟨hB.bs.1, by have := hB.bs.2; omega⟩ hn hB.ok).mono ?_
    rintro e w1 ⟨a, l, k, he, ha, hf⟩
    exact ⟨_, ⟨a, l, k, rfl⟩, he, ha, hf⟩
theorem bs33 (kd fr to cx op id c1 c2 bt ep sq : Int) (a : Option Addr) (l k : Nat) (w : World) : (Instr.buildSlice 33 1 #[(0, .agg (mgC kd fr to cx op id c1 c2 bt ep sq (.slice a l k)))]).run Tryd.prog w = .ok (.slice (some ⟨w.heap.size, 0, none⟩) 1 1) (w.alloc (.cells (mgC kd fr to cx op id c1 c2 bt ep sq (.slice a l k)) 51)) := by kernel_rfl
theorem MgX.form {X : Array Value} (h : MgX s X) : ∃ kd fr to cx op id c1 c2 bt ep sq a l k, X = mgC kd fr to cx op id c1 c2 bt ep sq (.slice a l k) := by
  unfold MgX at h
  by_cases he : s.a.ep = 0
  · rw [if_pos he] at h
    exact ⟨_, _, _, _, _, _, _, _, _, _, _, _, _, _, h⟩
  · rw [if_neg he] at h
    obtain ⟨a, l, k, h⟩ := h
    exact ⟨_, _, _, _, _, _, _, _, _, _, _, _, _, _, h⟩
theorem bs33X {X : Array Value} (h : ∃ kd fr to cx op id c1 c2 bt ep sq a l k, X = mgC kd fr to cx op id c1 c2 bt ep sq (.slice a l k)) (w : World) : (Instr.buildSlice 33 1 #[(0, .agg X)]).run Tryd.prog w = .ok (.slice (some ⟨w.heap.size, 0, none⟩) 1 1) (w.alloc (.cells X 51)) := by
  obtain ⟨kd, fr, to, cx, op, id, c1, c2, bt, ep, sq, a, l, k, rfl⟩ := h
  exact bs33 ..
theorem wpList_bs33 {ops : Array Oper} {rest : List Oper} {o : Oper} {a : Act} {w : World} {Q : Exit → Act → World → Prop} (hg : o.guard = none) (x : Operand) (ho : o.op = .buildSlice 33 1 #[(0, x)]) (X : Array Value) (hx : a.eval x = .agg X)
    (hX : ∃ kd fr to cx op id c1 c2 bt ep sq a l k, X = mgC kd fr to cx op id c1 c2 bt ep sq (.slice a l k))
    (h : wpList Tryd.prog ops Q rest (a.put o.dst (.slice (some ⟨w.heap.size, 0, none⟩) 1 1)) (w.alloc (.cells X 51))) : wpList Tryd.prog ops Q (o :: rest) a w := by
  refine wpList_plain hg fun K hK => ?_
  unfold Oper.wp execOp
  simp only [ho, Sem.run_bind]
  have e : (#[((0 : Nat), x)].map fun (q : Nat × Operand) => (q.1, a.eval q.2)) = #[(0, .agg X)] := by simp [hx]
  rw [e, bs33X hX w]
  simp only [Result.andThen_ok]
  exact hK _ _ h
def tc0 (s : Sg) : Sg := { s with a := { s.a with ck := s.a.ck + 1 } }
def tcS (s : Sg) : Sg := kuS (tc0 s)
def tcE (s : Sg) : Int := kuE (tc0 s)
def tcB (s : Sg) : Bool := decide (tcE s = 0) && decide ((tcS s).a.ck % 3 = 0)
def tnS (s : Sg) : Sg := if tcB s = true then mgS (tcS s) else tcS s
def TnV (w w' : World) (s : Sg) (v : Value) : Prop :=
  if tcB s = true then ∃ X b, MgX (tcS s) X ∧ v = .slice (some ⟨b, 0, none⟩) 1 1 ∧ w.heap.size ≤ b ∧ w'.heap[b]? = some (.cells X 51 (0, 0)) else v = nilS
theorem begS_base (s : Sg) : (begS s).a.id = s.a.id ∧ (begS s).a.c1 = s.a.c1 ∧ (begS s).a.c2 = s.a.c2 ∧ (begS s).a.sv = s.a.sv ∧ (begS s).a.ck = s.a.ck ∧ (begS s).a.sn = s.a.sn ∧ (begS s).a.hi = s.a.hi ∧ (begS s).a.ep = s.a.ep ∧ (begS s).a.le = s.a.le ∧ (begS s).a.bs = s.a.bs ∧ (begS s).a.tk = s.a.tk ∧ (begS s).T = s.T ∧ (begS s).f ≤ s.f + 1 := by
  unfold begS
  repeat' split
  all_goals exact ⟨rfl, rfl, rfl, rfl, rfl, rfl, rfl, rfl, rfl, rfl, rfl, rfl, by simp⟩
theorem tk0_ok : TkOk tk0 := ⟨fun k a h => by cases h⟩
theorem kuS_base (s : Sg) : (kuS s).a.id = s.a.id ∧ (kuS s).a.sv = s.a.sv ∧ (kuS s).a.ck = s.a.ck ∧ (kuS s).a.sn = s.a.sn ∧ (kuS s).a.bs = s.a.bs ∧ (kuS s).f ≤ s.f + 1 ∧ ((kuS s).T = s.T ∨ (kuS s).T = tk0) := by
  unfold kuS gvS
  split
  · have := begS_base { s with a := { s.a with bt := 0, ep := 0 }, T := tk0 }
    exact ⟨this.1, this.2.2.2.1, this.2.2.2.2.1, this.2.2.2.2.2.1, this.2.2.2.2.2.2.2.2.2.1, this.2.2.2.2.2.2.2.2.2.2.2.2, .inr this.2.2.2.2.2.2.2.2.2.2.2.1⟩
  · split
    · have := begS_base s
      exact ⟨this.1, this.2.2.2.1, this.2.2.2.2.1, this.2.2.2.2.2.1, this.2.2.2.2.2.2.2.2.2.1, this.2.2.2.2.2.2.2.2.2.2.2.2, .inl this.2.2.2.2.2.2.2.2.2.2.2.1⟩
    · exact ⟨rfl, rfl, rfl, rfl, rfl, by omega, .inl rfl⟩
theorem tcS_B {B : Int} (h : SgB s B) : SgB (tcS s) (B + 1) := by
  obtain ⟨h1, h2, h3, h4, h5, h6, h7⟩ := kuS_base (tc0 s)
  have e1 : (tc0 s).a.id = s.a.id := rfl
  have e2 : (tc0 s).a.ck = s.a.ck + 1 := rfl
  have e3 : (tc0 s).a.sv = s.a.sv := rfl
  have e4 : (tc0 s).a.sn = s.a.sn := rfl
  have e5 : (tc0 s).a.bs = s.a.bs := rfl
  have e6 : (tc0 s).f = s.f := rfl
  obtain ⟨a1, a2, a3, a4, a5, a6, a7⟩ := h
  unfold tcS
  refine ⟨by rw [h1, e1]; exact a1, by rw [h2, e3]; exact a2, by rw [h4, e4]; omega, by rw [h3, e2]; omega, by rw [h5, e5]; omega, by rw [e6] at h6; omega, ?_⟩
  rcases h7 with h7 | h7
  · rw [h7]; exact a7
  · rw [h7]; exact tk0_ok
set_option maxHeartbeats 2000000 in
set_option maxRecDepth 100000 in
theorem tick_any (h : AgS D w p s n c) (ht : Tb D w) {B : Int} (hB : SgB s B) (hb : B + 1 ≤ 1099511627776) (hc : c + 1 ≤ 2199023255552) (hn : n ≤ 1099511627776) :
    Calls Tryd.prog 8 #[.pointer (some ⟨p, 0, none⟩)] w fun e w' => ∃ v, e = .returned (.tuple #[v, .int .i64 (tcE s)]) ∧ TnV w w' s v ∧ AgS D w' p (tnS s) n (c + 1) ∧ FrA D w w' := by
  obtain ⟨pd, mv, G, h⟩ := h
  have hD : D ≤ w.heap.size := Nat.le_trans h.hp (Nat.le_of_lt h.b.lt)
  have lp := h.b.lt
  have c6 : w.cell? ⟨p, 6, none⟩ = some (.int .i64 s.a.ck) := h.b.at_ 6
  have f6 := h.b.fr 6
  have hB' := tcS_B hB
  have hck := hB.ck
  have hck' := hB'.ck
  have hwr : IntKind.i64.wrap (s.a.ck + 1) = s.a.ck + 1 := IntWalk.i64_in _ (by omega)
  have hA1 := h.set1 (a' := { s.a with ck := s.a.ck + 1 }) 6 (.int .i64 (s.a.ck + 1)) rfl
  have hF1 : FrA D w (w.setCell ⟨p, 6, none⟩ (.int .i64 (s.a.ck + 1))) := .setp h.b h.hp 6 _
  have HK := hidOf (keepUp_any (s := tc0 s) ⟨pd, mv, G, hA1⟩ (ht.below (hF1.below hD)) (show s.f ≤ _ by have := hB.f; omega) hc)
  have HF1 := hidOf hF1
  have HB := hidOf hB'
  have HH := hidOf hb
  have HN := hidOf hn
  obtain ⟨E, hE⟩ : ∃ E, E = tcE s := ⟨_, rfl⟩
  have HE := hidOf hE
  obtain ⟨C, hC⟩ : ∃ C, C = (tcS s).a.ck := ⟨_, rfl⟩
  have HC := hidOf hC
  rw [← hC] at hck'
  obtain ⟨hk0, hk1⟩ := hck'
  have hrm : C.tmod 3 = C % 3 := Int.tmod_eq_emod_of_nonneg hk0
  have hm0 : 0 ≤ C % 3 := Int.emod_nonneg _ (by omega)
  have hm1 : C % 3 < 3 := Int.emod_lt_of_pos _ (by omega)
  have hwm : IntKind.i64.wrap (C % 3) = C % 3 := IntWalk.i64_in _ (by omega)
  rw [← hE]
  clear h hB hB' hck hA1 hF1 hE hC ht hb hn
  by_cases he : E = 0
  · have eb : (E != 0) = false := by simp [he]
    have HEE := hidOf he
    clear he
    by_cases hc3 : C % 3 = 0
    · have mb : (C % 3 != 0) = false := by simp [hc3]
      have HT : Hid (tcB s = true) := hidOf (by unfold tcB; rw [← HE.out, ← HC.out]; simp [HEE.out, hc3])
      clear hc3
      go_enter Tryd.func8, Tryd.ntmps8
      go_wp2_with (first | (go_at_call 19; go_must (refine HK.out.mono ?_; rintro e w1 ⟨he1, ha, hf⟩; have he1 : e = .returned (.int .i64 E) := (by rw [he1, HE.out]; rfl); subst he1; have HF2 := hidOf (HF1.out.trans hf); have HA2 : Hid (AgS D w1 p (tcS s) n (c + 1)) := hidOf ha; have x6 : w1.cell? ⟨p, 6, none⟩ = some (.int .i64 C) := (by obtain ⟨pd1, mv1, G1, ha⟩ := ha; have := ha.b.at_ 6; rw [HC.out]; exact this); have lp1 : p < w1.heap.size := (by obtain ⟨pd1, mv1, G1, ha⟩ := ha; exact ha.b.lt); clear ha hf)) | (go_at_call 20; go_must (refine (message_any HA2.out HB.out HH.out HN.out).mono ?_; rintro e w2 ⟨X, hX, rfl, ha, hf⟩; have HX := hidOf hX; have HA3 := hidOf ha; have HF3 := hidOf (HF2.out.trans hf); clear ha hf hX)) | (refine wpList_bs33 rfl (.tmp 24) rfl X rfl HX.out.form ?_))
      go_ret2
      refine ⟨_, (by rw [HEE.out]; rfl), ?_, ?_, (HF3.out).trans (.of_below (below1 w2 _))⟩
      · unfold TnV
        rw [if_pos HT.out]
        exact ⟨X, w2.heap.size, HX.out, rfl, HF3.out.size, heap_alloc_new w2 _⟩
      · unfold tnS
        rw [if_pos HT.out]
        exact HA3.out.keepA (.below (below1 w2 _))
    · have mb : (C % 3 != 0) = true := by simp [hc3]
      have HT : Hid (¬ tcB s = true) := hidOf (by unfold tcB; rw [← HE.out, ← HC.out]; simp [hc3])
      clear hc3
      go_enter Tryd.func8, Tryd.ntmps8
      go_wp2_with ((go_at_call 19; go_must (refine HK.out.mono ?_; rintro e w1 ⟨he1, ha, hf⟩; have he1 : e = .returned (.int .i64 E) := (by rw [he1, HE.out]; rfl); subst he1; have HF2 := hidOf (HF1.out.trans hf); have HA2 : Hid (AgS D w1 p (tcS s) n (c + 1)) := hidOf ha; have x6 : w1.cell? ⟨p, 6, none⟩ = some (.int .i64 C) := (by obtain ⟨pd1, mv1, G1, ha⟩ := ha; have := ha.b.at_ 6; rw [HC.out]; exact this); have lp1 : p < w1.heap.size := (by obtain ⟨pd1, mv1, G1, ha⟩ := ha; exact ha.b.lt); clear ha hf)))
      go_ret2
      exact ⟨_, (by rw [HEE.out]; rfl), (by unfold TnV; rw [if_neg HT.out]; first | done | rfl), by unfold tnS; rw [if_neg HT.out]; exact HA2.out, HF2.out⟩
  · have eb : (E != 0) = true := by simp [he]
    have HT : Hid (¬ tcB s = true) := hidOf (by unfold tcB; rw [← HE.out]; simp [he])
    clear he
    go_enter Tryd.func8, Tryd.ntmps8
    go_wp2_with ((go_at_call 19; go_must (refine HK.out.mono ?_; rintro e w1 ⟨he1, ha, hf⟩; have he1 : e = .returned (.int .i64 E) := (by rw [he1, HE.out]; rfl); subst he1; have HF2 := hidOf (HF1.out.trans hf); have HA2 : Hid (AgS D w1 p (tcS s) n (c + 1)) := hidOf ha; have x6 : w1.cell? ⟨p, 6, none⟩ = some (.int .i64 C) := (by obtain ⟨pd1, mv1, G1, ha⟩ := ha; have := ha.b.at_ 6; rw [HC.out]; exact this); have lp1 : p < w1.heap.size := (by obtain ⟨pd1, mv1, G1, ha⟩ := ha; exact ha.b.lt); clear ha hf)))
    go_ret2
    exact ⟨_, rfl, (by unfold TnV; rw [if_neg HT.out]; first | done | rfl), by unfold tnS; rw [if_neg HT.out]; exact HA2.out, HF2.out⟩
end Go.Proofs.YtkienmncifonnaaDoor
