/- Id, Ie, Ig0, Jjob -/
import Derived.Test.YtocoimjhglackaaGreatQ38
import Derived.Deep.RegionLaw
set_option maxHeartbeats 8000000
set_option maxRecDepth 100000
namespace Go.Proofs.YtocoimjhglackaaGreat
section
open Go.RowKit
theorem zM2 {P : Program} {ops : Array Oper} {o : Oper} {a : Act} {K : Act -> World -> Prop} {Q : Exit -> Act -> World -> Prop} {E : Prop} (w : World) (hgd : o.guard = none) (s x : Operand) (t : TypeId)
    (ho : o.op = .call { callee := .builtin .append, args := #[s, x], argTypes := #[t, t] })
    (base : Nat) (e : TypeId) (i : TypeInfo) (z : Value) (size bytes : Nat) (ht : P.underlying t = some (.slice e)) (hi : P.info? e = some i) (hz : i.zero = some z)
    (hsize : i.size = size) (hby : i.bytes = bytes) (hzs : z.cells.size = size) (hsz : 0 < size)
    (v : Value) (n : Nat) (xs : List Value) (hs : a.eval s = v) (hown : w.ownsRow base e size v n xs)
    (ad : Addr) (m c : Nat) (news : List Value) (hx : a.eval x = .slice (some ad) m c) (hl : news.length = m * size) (hnews : ∀ j u, news[j]? = some u -> w.cell? (ad.add j) = some u) (h1 : ∀ u ∈ news, u.oneCell' = true)
    (h63 : n + m <= maxLen) (hbytes : (n + m) * bytes <= 140737488355328) (hbase : base <= w.heap.size)
    (h : ∀ v' w', w'.ownsRow base e size v' (n + m) (xs ++ news) -> w.grownBy w' v.ownBlock -> (v'.ownBlock = v.ownBlock \/ v'.ownBlock = some w.heap.size) -> K (a.put o.dst v') w') :
    if Region.wanted o (yielded ops a.tmps) = true then Oper.wp P o a w K Q else E := by
 have hw : Region.wanted o (yielded ops a.tmps) = true := by simp [Region.wanted, hgd]
 rw [if_pos hw]
 obtain ⟨v', w', hr, h2, h3, _⟩ := run_append_own (P := P) w base t o.type e i z size bytes ht hi hz hsize hby hzs hsz v n xs hown ad m c news hl hnews h1 h63 hbytes hbase
 have h4 := yD3 w base t o.type e i z size bytes ht hi hz hsize hby v n xs hown ad m c news hl hnews h1 h63 hbytes v' w' hr
 unfold Oper.wp execOp
 simp only [ho, resolve, invoke, builtin, Sem.run_bind, Sem.run_pure, Result.andThen_ok, List.map_toArray, List.map_cons, List.map_nil, hs, hx, hr]
 exact h v' w' h2 h3 h4
def putL (C : List Value) (o : Nat) (vs : List Value) : List Value := C.take o ++ vs ++ C.drop (o + vs.length)
structure Laid (w w' : World) (b : Nat) (C' : List Value) (t : TypeId) : Prop where
 os : w'.os = w.os
 tape : w'.tape = w.tape
 output : w'.output = w.output
 size : w'.heap.size = w.heap.size
 at_ : w'.heap[b]? = some (.cells C'.toArray t (0, 0))
 block : ∀ k, k ≠ b -> w'.heap[k]? = w.heap[k]?
theorem zR5 {w : World} {b o : Nat} {C : List Value} {t : TypeId} (h : w.heap[b]? = some (.cells C.toArray t (0, 0))) (v : Value) : Laid w (w.setCell ⟨b, o, none⟩ v) b (C.set o v) t := by
 refine ⟨rfl, rfl, rfl, by simp, ?_, fun k hk => Below.heap_setCell w ⟨b, o, none⟩ v k hk⟩
 rw [heap_setCell_same w b o _ t v h, List.setIfInBounds_toArray]
theorem yD0 (b : Nat) (t : TypeId) : ∀ (vs : List Value) (o : Nat) (C : List Value) (w : World), w.heap[b]? = some (.cells C.toArray t (0, 0)) -> o + vs.length <= C.length -> Laid w (w.setCells b o vs) b (putL C o vs) t
 | [], o, C, w, h, _ => by
  refine ⟨rfl, rfl, rfl, rfl, ?_, fun _ _ => rfl⟩
  unfold putL
  simp only [List.length_nil, Nat.add_zero, List.append_nil, List.take_append_drop]
  exact h
 | v :: vs, o, C, w, h, hl => by
  have h1 := zR5 (o := o) h v
  simp only [List.length_cons] at hl
  have h2 := yD0 b t vs (o + 1) (C.set o v) (w.setCell ⟨b, o, none⟩ v) h1.at_ (by rw [List.length_set]; omega)
  refine ⟨h2.os.trans h1.os, h2.tape.trans h1.tape, h2.output.trans h1.output, h2.size.trans h1.size, ?_, fun k hk => (h2.block k hk).trans (h1.block k hk)⟩
  have e : putL (C.set o v) (o + 1) vs = putL C o (v :: vs) := by
   unfold putL
   apply List.ext_getElem?
   intro j
   simp only [List.length_cons, List.append_assoc, List.getElem?_append, List.length_take, List.length_set, List.getElem?_take, List.getElem?_drop, List.getElem?_set]
   by_cases hj : j < o
   · rw [if_pos (by omega), if_pos (by omega), if_neg (by omega), if_pos (by omega), if_pos (by omega)]
   · by_cases hj2 : j = o
     · subst hj2
       rw [if_pos (by omega), if_pos (by omega), if_pos rfl, if_pos (by omega), if_neg (by omega), if_pos (by omega), show j - min j C.length = 0 by omega]
       rfl
     · by_cases hj3 : j < o + 1 + vs.length
       · rw [if_neg (by omega), if_pos (by omega), if_neg (by omega), if_pos (by omega), show j - min o C.length = (j - min (o + 1) C.length) + 1 by omega, List.getElem?_cons_succ]
       · rw [if_neg (by omega), if_neg (by omega), if_neg (by omega), if_neg (by omega), if_neg (by omega)]
         congr 1
         omega
  rw [<- e]
  exact h2.at_
theorem zJ7 {ops : Array Oper} {rest : List Oper} {op : Oper} {a : Act} {w : World} {Q : Exit -> Act -> World -> Prop} (hgd : op.guard = none) (ty : TypeId) (x y : Operand) (ho : op.op = .store ty x y)
    (b o : Nat) (cs : List Value) (hx : a.eval x = .pointer (some ⟨b, o, none⟩)) (hy : a.eval y = .agg cs.toArray) (t : TypeId) (C C' : List Value) (hb : w.heap[b]? = some (.cells C.toArray t (0, 0))) (hC : putL C o cs = C') (hl : o + cs.length <= C.length)
    (hi : (Tryz.prog.info? ty).map (·.size) = some cs.toArray.size) (h1 : ∀ v ∈ cs, v.oneCell' = true) (h : ∀ w', Hid (Laid w w' b C' t) -> wpList Tryz.prog ops Q rest (a.put op.dst undef) w') : wpList Tryz.prog ops Q (op :: rest) a w := by
 refine wpList_store_mid hgd ty x y ho b o cs.toArray hx hy ?_ hi (all_oneCell_toArray h1) ?_
 · intro j hj
   have hj' : j < cs.length := by simpa using hj
   constructor
   · rw [cell_of_row w b _ _ t (0, 0) hb, List.getElem?_toArray, List.getElem?_eq_getElem (by omega)]; rfl
   · simp [World.frozen?, hb]
 · have := yD0 b t cs o C w hb hl
   rw [hC] at this
   exact h _ this
def NX (lo q : Nat) (w : World) (b : Nat) : Prop := lo <= b /\ b ≠ q /\ b < w.heap.size /\ Uf w b
theorem NX.to {lo q : Nat} {w w' : World} {b : Nat} (h : NX lo q w b) (hs : w.heap.size <= w'.heap.size) (hb : ∀ b, lo <= b -> b ≠ q -> b < w.heap.size -> w'.heap[b]? = w.heap[b]?) : NX lo q w' b := ⟨h.1, h.2.1, Nat.lt_of_lt_of_le h.2.2.1 hs, h.2.2.2.to (hb b h.1 h.2.1 h.2.2.1)⟩
theorem Rep.keptX {lo q : Nat} {w w' : World} {f : Fm} {cs : List Value} {v : Vl f} (h : Rep w (NX lo q w) f cs v) (hs : w.heap.size <= w'.heap.size) (hb : ∀ b, lo <= b -> b ≠ q -> b < w.heap.size -> w'.heap[b]? = w.heap[b]?) : Rep w' (NX lo q w') f cs v := h.kept hs (fun b x => hb b x.1 x.2.1 x.2.2.1) (fun _ x => x.to hs hb)
theorem RepL.keptX {lo q : Nat} {w w' : World} {f : Fm} {a : Option Addr} {v : List (Vl f)} (h : RepL w (NX lo q w) f a v) (hs : w.heap.size <= w'.heap.size) (hb : ∀ b, lo <= b -> b ≠ q -> b < w.heap.size -> w'.heap[b]? = w.heap[b]?) : RepL w' (NX lo q w') f a v := h.kept hs (fun b x => hb b x.1 x.2.1 x.2.2.1) (fun _ x => x.to hs hb)
theorem Rep.toX {lo lo' q : Nat} {w : World} {f : Fm} {cs : List Value} {v : Vl f} (h : Rep w (NBr lo w) f cs v) (hl : lo' <= lo) (hq : q < lo \/ w.heap.size <= q) : Rep w (NX lo' q w) f cs v := h.kept (Nat.le_refl _) (fun _ _ => rfl) (fun b x => ⟨Nat.le_trans hl x.1, by have := x.1; have := x.2.1; omega, x.2.1, x.2.2⟩)
theorem RepL.toX {lo lo' q : Nat} {w : World} {f : Fm} {a : Option Addr} {v : List (Vl f)} (h : RepL w (NBr lo w) f a v) (hl : lo' <= lo) (hq : q < lo \/ w.heap.size <= q) : RepL w (NX lo' q w) f a v := h.kept (Nat.le_refl _) (fun _ _ => rfl) (fun b x => ⟨Nat.le_trans hl x.1, by have := x.1; have := x.2.1; omega, x.2.1, x.2.2⟩)
theorem Rep.unX {lo q : Nat} {w w' : World} {f : Fm} {cs : List Value} {v : Vl f} (h : Rep w' (NX lo q w') f cs v) (hl : w.heap.size <= lo) : Rep w' (NB w w') f cs v := h.kept (Nat.le_refl _) (fun _ _ => rfl) (fun _b x => ⟨Nat.le_trans hl x.1, x.2.2.1, x.2.2.2⟩)
theorem RI.laid {D : Nat} {w w' : World} {p b : Nat} {l : List UInt8} {bad : Bool} {C : List Value} {t : TypeId} (h : RI D w p l bad) (hl : Laid w w' b C t) (hp : p < b) (hD : D <= b) : RI D w' p l bad := h.ext (B := b) ⟨hl.os, hl.tape, hl.output, by rw [hl.size]; exact Nat.le_refl _, fun k hk => hl.block k (by omega)⟩ hp hD
end
section
open Go.RowKit
theorem xB1 {w w' : World} {base e size : Nat} {v : Value} {n : Nat} {xs : List Value} (h : w.ownsRow base e size v n xs) (hb : ∀ g, v.ownBlock = some g -> w'.heap[g]? = w.heap[g]?) : w'.ownsRow base e size v n xs := by
 refine ⟨h.1, ?_⟩
 rcases h.2 with h1 | ⟨g, cap, cur, e1, e2, e3, e4⟩
 · exact .inl h1
 · exact .inr ⟨g, cap, cur, e1, e2, (hb g (by rw [e1]; rfl)).trans e3, e4⟩
theorem xB0 {w : World} {base e size : Nat} {v : Value} {n : Nat} {xs : List Value} {q : Nat} {C : Array Value} {t : TypeId} {fr : Nat × Nat} (ho : w.ownsRow base e size v n xs) (hq : w.heap[q]? = some (.cells C t fr)) (hne : e ≠ t) : v.ownBlock ≠ some q := by
 intro hv
 rcases ho.2 with ⟨h1, _⟩ | ⟨g, cap, cur, e1, e2, e3, e4⟩
 · rw [h1] at hv; cases hv
 · rw [e1] at hv; cases hv; rw [hq] at e3; cases e3; exact hne rfl
theorem yJ5 {D : Nat} {wB wr wl w3 : World} {p q1 : Nat} {f : Fm} {E size k : Nat} {l1 lk l2 : List UInt8} {b1 bk b2 : Bool} {v v3 : Value} {xs es : List Value} {vs : List (Vl f)} {x : Vl f} {lf : Nat} {C : List Value} {t : TypeId}
    (ok : wr.ownsRow wB.heap.size E size v k xs) (sk : RQ wB wr p q1) (rdk : RdN f k l1 b1 vs lk bk) (hel : zE0 wB wr f v xs vs)
    (G1 : wr.heap[q1]? = some (.cells C.toArray t (0, 0))) (hEt : E ≠ t) (hq : q1 < wB.heap.size) (hpB : p < wB.heap.size) (hpq : p < q1) (hDq : D <= q1)
    (tl : RS wr wl p) (hx : Rep wl (NBr wr.heap.size wl) f es x) (rdx : Rd f lk bk x l2 b2) (rl : RI D wl p l2 b2)
    (ho3 : w3.ownsRow wB.heap.size E size v3 (k + 1) (xs ++ es)) (hg3 : (wl.alloc (.cells es.toArray E)).grownBy w3 v.ownBlock) (hw3 : v3.ownBlock = v.ownBlock \/ v3.ownBlock = some (wl.heap.size + 1)) :
    yR2 D wB p q1 f E size (k + 1) l1 b1 v3 (w3.setCell ⟨q1, lf, none⟩ v3) /\ (w3.setCell ⟨q1, lf, none⟩ v3).heap[q1]? = some (.cells (C.set lf v3).toArray t (0, 0)) := by
 have hqr : q1 < wr.heap.size := (Array.getElem?_eq_some_iff.1 G1).1
 have ok2 := zF8 ok tl hpB
 have Gl : wl.heap[q1]? = some (.cells C.toArray t (0, 0)) := (tl.block q1 hqr (by omega)).trans G1
 have hqv : v.ownBlock ≠ some q1 := xB0 ok G1 hEt
 have hbl : ∀ j, v.ownBlock = some j -> wB.heap.size <= j := fun j hj => (ok.lt j hj).1
 have hl3 : ∀ j, j < wl.heap.size -> v.ownBlock ≠ some j -> w3.heap[j]? = wl.heap[j]? := fun j hj hne => (hg3.block j (by rw [World.size_alloc]; omega) (fun e => hne e.symm)).trans (Below.heap_alloc wl _ j hj)
 have hs3 : wl.heap.size + 1 <= w3.heap.size := by have := hg3.size; rwa [World.size_alloc] at this
 have hql : q1 < wl.heap.size := Nat.lt_of_lt_of_le hqr tl.size
 have G3 : w3.heap[q1]? = some (.cells C.toArray t (0, 0)) := (hl3 q1 hql hqv).trans Gl
 have LA := zR5 (o := lf) G3 v3
 have hBl : Below wB.heap.size wl w3 := ⟨hg3.os, hg3.tape, hg3.output, by omega, fun j hj => hl3 j (by have := sk.size; have := tl.size; omega) (fun e => by have := hbl j e; omega)⟩
 have HEL2 := hel.rs tl hpB
 have HEL3 := HEL2.more hx sk.size (fun j hj => (ok.lt j hj).2) ((Below.refl _ _).alloc (Nat.le_refl _) _) hg3 (by rw [World.size_alloc]; exact hw3)
 have hRS : RS w3 (w3.setCell ⟨q1, lf, none⟩ v3) q1 := ⟨LA.os, LA.tape, LA.output, by rw [LA.size]; exact Nat.le_refl _, fun j _ hj => LA.block j hj⟩
 have hq3 : v3.ownBlock ≠ some q1 := xB0 ho3 G3 hEt
 refine ⟨⟨_, _, l2, b2, xB1 ho3 (fun g hg => LA.block g (fun e => hq3 (by rw [hg, e]))), ?_, ?_, rdk.more rdx, HEL3.rs hRS hq⟩, LA.at_⟩
 · refine ⟨LA.os.trans (hg3.os.trans (tl.os.trans sk.os)), LA.tape.trans (hg3.tape.trans (tl.tape.trans sk.tape)), LA.output.trans (hg3.output.trans (tl.output.trans sk.output)), ?_, fun j hj hjp hjq => ?_⟩
   · rw [LA.size]; have := sk.size; have := tl.size; omega
   · exact (LA.block j hjq).trans ((hBl.block j hj).trans ((tl.block j (Nat.lt_of_lt_of_le hj sk.size) hjp).trans (sk.block j hj hjp hjq)))
 · exact (rl.ext hBl hpB (by omega)).laid LA hpq hDq
theorem xD1 {wB wr wl w3 : World} {p q1 : Nat} {E size k : Nat} {v : Value} {xs es : List Value} {C : List Value} {t : TypeId}
    (ok : wr.ownsRow wB.heap.size E size v k xs) (G1 : wr.heap[q1]? = some (.cells C.toArray t (0, 0))) (hEt : E ≠ t) (hpq : p < q1) (tl : RS wr wl p) (hg3 : (wl.alloc (.cells es.toArray E)).grownBy w3 v.ownBlock) : w3.heap[q1]? = some (.cells C.toArray t (0, 0)) := by
 have hqr : q1 < wr.heap.size := (Array.getElem?_eq_some_iff.1 G1).1
 have hqv : v.ownBlock ≠ some q1 := xB0 ok G1 hEt
 have hql : q1 < wl.heap.size := Nat.lt_of_lt_of_le hqr tl.size
 exact ((hg3.block q1 (by rw [World.size_alloc]; omega) (fun e => hqv e.symm)).trans (Below.heap_alloc wl _ q1 hql)).trans ((tl.block q1 hqr (by omega)).trans G1)
theorem yI6 {w : World} {base e size : Nat} {v : Value} {n : Nat} {xs : List Value} (h : w.ownsRow base e size v (n + 1) xs) : ∃ g c, v = .slice (some ⟨g, 0, none⟩) (n + 1) c := by
 rcases h.2 with ⟨_, h1⟩ | ⟨g, cap, cur, e1, _⟩
 · omega
 · exact ⟨g, cap, e1⟩
theorem xA9 (w : World) (p : Nat) : RS w w.drew p := ⟨rfl, rfl, rfl, Nat.le_refl _, fun _ _ _ => rfl⟩
end
section
open Go.RowKit
theorem xP0 {D : Nat} (p : Nat) (l : List UInt8) (bad : Bool) (w : World) (h : RI D w p l bad) : Calls Tryz.prog 74 #[.pointer (some ⟨p, 0, none⟩)] w fun e w' => e = .returned (.bool (!bad && decide (l = []))) /\ w' = w := by
 obtain ⟨h1, hD, f0, f1, c1, a, cap, c0, hcap, hbs, hne⟩ := h
 clear hbs hne
 cases bad with
 | true =>
  go_enter Tryz.func74, Tryz.ntmps74
  go_wp2
  go_ret
  exact ⟨rfl, rfl⟩
 | false =>
  cases l with
  | nil =>
   have HE : Hid ((!false && decide (([] : List UInt8) = [])) = true) := by show _ = _; decide
   rw [HE.out]
   simp only [List.length_nil] at c0
   go_enter Tryz.func74, Tryz.ntmps74
   go_wp2
   go_ret
   exact ⟨rfl, rfl⟩
  | cons x r =>
   have HE : Hid ((!false && decide ((x :: r : List UInt8) = [])) = false) := by show _ = _; simp
   rw [HE.out]
   have hlp : (((x :: r).length : Int) == 0) = false := by simp; omega
   obtain ⟨n, hn⟩ : ∃ n, (x :: r).length = n := ⟨_, rfl⟩
   rw [hn] at hlp c0 hcap
   go_enter Tryz.func74, Tryz.ntmps74
   go_wp2
   go_ret
   exact ⟨rfl, rfl⟩
theorem xR3 {α : Type} (m : α -> Nat) (b : Nat) (vs : List α) (h : ∀ v ∈ vs, m v <= b) : (vs.map m).sum <= vs.length * b := by
 induction vs with
 | nil => simp
 | cons v vs ih =>
  have h1 := h v (by simp)
  have h2 := ih (fun x hx => h x (by simp [hx]))
  rw [List.map_cons, List.sum_cons, List.length_cons, Nat.add_mul]
  omega
theorem yZ7 (f : Fm) (v : Vl f) (h : (en f v).2 = false) : szb f v <= mx f := by
 induction f with
 | num => exact Nat.le_refl _
 | tru => exact Nat.le_refl _
 | byt =>
  have h' : (if List.length (α := UInt8) v <= 65536 then (enc (List.length (α := UInt8) v : Int) ++ v, false) else ([], true)).2 = false := h
  show 6 + List.length (α := UInt8) v <= 65542
  split at h'
  · omega
  · cases h'
 | lst f ih =>
  have h' : (if List.length (α := Vl f) v <= 64 then (enc (List.length (α := Vl f) v : Int) ++ List.flatMap (fun v => (en f v).1) v, List.any v fun v => (en f v).2) else ([], true)).2 = false := h
  show 6 + (List.map (fun v => szb f v) v).sum <= 6 + 64 * mx f
  split at h'
  · next hl =>
    have h2 := xR3 (fun v => szb f v) (mx f) v (fun x hx => ih x (by
     have := List.any_eq_false.1 h' x hx
     simpa using this))
    have h3 : List.length (α := Vl f) v * mx f <= 64 * mx f := Nat.mul_le_mul_right _ hl
    omega
  · cases h'
 | cat a b iha ihb =>
  have h' : ((en a v.1).2 || (en b v.2).2) = false := h
  rw [Bool.or_eq_false_iff] at h'
  show szb a v.1 + szb b v.2 <= mx a + mx b
  have h1 := iha v.1 h'.1
  have h2 := ihb v.2 h'.2
  omega
theorem zT8 {f : Fm} {l l1 : List UInt8} {b1 : Bool} {v : Vl f} (h : Rd f l false v l1 b1) : (b1 = false /\ l1 = [] /\ (en f v).1 = l) ↔ (de f (some l)).2 = some [] := by
 constructor
 · rintro ⟨_, _, e⟩
   have := xL6 f v [] h.1
   rw [List.append_nil, e] at this
   rw [this]
 · intro e
   obtain ⟨e1, e2, e3⟩ := h.2 rfl [] e
   have := (xK9 f l [] e).2
   rw [List.append_nil, <- e1] at this
   exact ⟨e3, e2, this.symm⟩
end
section
open Go.RowKit
theorem kE7 {D : Nat} (p : Nat) (l : List UInt8) (bad : Bool) (w : World) (h : RI D w p l bad) : Calls Tryz.prog 129 #[.pointer (some ⟨p, 0, none⟩)] w fun e w' => RecO D w p zB9 l bad e w' := by
 obtain ⟨i0, hi0, hz00, hz10, hz20⟩ := info_parts zU7
 have HI := hidI hi0
 have HZ0 := hidI hz00
 have HZ1 := hidI hz10
 have HZ2 := hidI hz20
 clear hi0 hz00 hz10 hz20
 have hB0 : Below w.heap.size w (w.alloc (.cells #[.int .i64 0, .int .i64 0, .int .i64 0, .int .i64 0, .slice none 0 0, .int .i64 0, .bool false] 61)) := (Below.refl _ _).alloc (Nat.le_refl _) _
 have h0 : RI D (w.alloc (.cells #[.int .i64 0, .int .i64 0, .int .i64 0, .int .i64 0, .slice none 0 0, .int .i64 0, .bool false] 61)) p l bad := h.ext hB0 h.1 h.2.1
 have s0 : RS w (w.alloc (.cells #[.int .i64 0, .int .i64 0, .int .i64 0, .int .i64 0, .slice none 0 0, .int .i64 0, .bool false] 61)) p := (RS.refl _ _).alloc _
 have g0 : Hid ((w.alloc (.cells #[.int .i64 0, .int .i64 0, .int .i64 0, .int .i64 0, .slice none 0 0, .int .i64 0, .bool false] 61)).heap[w.heap.size]? = some (.cells #[.int .i64 0, .int .i64 0, .int .i64 0, .int .i64 0, .slice none 0 0, .int .i64 0, .bool false] 61 (0, 0))) := heap_alloc_new w _
 have z0 : w.heap.size < (w.alloc (.cells #[.int .i64 0, .int .i64 0, .int .i64 0, .int .i64 0, .slice none 0 0, .int .i64 0, .bool false] 61)).heap.size := by rw [World.size_alloc]; omega
 have hpq : Hid (p ≠ w.heap.size) := by have := h.1; show p ≠ _; omega
 have hDq : Hid (p < w.heap.size /\ D <= w.heap.size) := ⟨h.1, h.2.1⟩
 clear h hB0
 go_enter Tryz.func129, Tryz.ntmps129
 go_wp2_with fail
 refine (zF5 p _ _ _ h0).mono ?_
 rintro e w1 ⟨m0, rfl, _, l1, b1, rd1, h1, t1⟩
 have RD1 := hidI rd1
 clear rd1
 have s1 := s0.trans t1
 have g1 : Hid (w1.heap[w.heap.size]? = some (.cells #[.int .i64 0, .int .i64 0, .int .i64 0, .int .i64 0, .slice none 0 0, .int .i64 0, .bool false] 61 (0, 0))) := (t1.block _ z0 hpq.out.symm).trans g0.out
 have z1 : w.heap.size < w1.heap.size := Nat.lt_of_lt_of_le z0 t1.size
 clear h0 t1 s0 g0 z0
 go_wp2_with fail
 refine (zF5 p _ _ _ h1).mono ?_
 rintro e w2 ⟨m1, rfl, _, l2, b2, rd2, h2, t2⟩
 have RD2 := hidI rd2
 clear rd2
 have s2 := s1.trans t2
 have g2 : Hid (w2.heap[w.heap.size]? = some (.cells #[.int .i64 0, .int .i64 0, .int .i64 0, .int .i64 0, .slice none 0 0, .int .i64 0, .bool false] 61 (0, 0))) := (t2.block _ z1 hpq.out.symm).trans g1.out
 have z2 : w.heap.size < w2.heap.size := Nat.lt_of_lt_of_le z1 t2.size
 clear h1 t2 s1 g1 z1
 go_wp2_with fail
 refine (zF5 p _ _ _ h2).mono ?_
 rintro e w3 ⟨m2, rfl, _, l3, b3, rd3, h3, t3⟩
 have RD3 := hidI rd3
 clear rd3
 have s3 := s2.trans t3
 have g3 : Hid (w3.heap[w.heap.size]? = some (.cells #[.int .i64 0, .int .i64 0, .int .i64 0, .int .i64 0, .slice none 0 0, .int .i64 0, .bool false] 61 (0, 0))) := (t3.block _ z2 hpq.out.symm).trans g2.out
 have z3 : w.heap.size < w3.heap.size := Nat.lt_of_lt_of_le z2 t3.size
 clear h2 t3 s2 g2 z2
 go_wp2_with fail
 refine (zF5 p _ _ _ h3).mono ?_
 rintro e w4 ⟨m3, rfl, _, l4, b4, rd4, h4, t4⟩
 have RD4 := hidI rd4
 clear rd4
 have s4 := s3.trans t4
 have g4 : Hid (w4.heap[w.heap.size]? = some (.cells #[.int .i64 0, .int .i64 0, .int .i64 0, .int .i64 0, .slice none 0 0, .int .i64 0, .bool false] 61 (0, 0))) := (t4.block _ z3 hpq.out.symm).trans g3.out
 have z4 : w.heap.size < w4.heap.size := Nat.lt_of_lt_of_le z3 t4.size
 clear h3 t4 s3 g3 z3
 obtain ⟨q1, hq1⟩ : ∃ q1, Hid (w4.heap.size = q1) := ⟨_, hidI rfl⟩
 have I0 : Hid ((Tryz.prog.info? 61).map (·.size) = some (#[.int .i64 m0, .int .i64 m1, .int .i64 m2, .int .i64 m3, .slice none 0 0, .int .i64 0, .bool false] : Array Value).size) := by show _ = _; kernel_rfl
 have OP : Hid (∀ c ∈ ([.int .i64 m0, .int .i64 m1, .int .i64 m2, .int .i64 m3] : List Value), c.oneCell' = true) := by
  intro c hc
  simp only [List.mem_cons, List.not_mem_nil, or_false] at hc
  rcases hc with rfl | rfl | rfl | rfl
  · exact rfl
  · exact rfl
  · exact rfl
  · exact rfl
 have O0 : Hid ((#[.int .i64 m0, .int .i64 m1, .int .i64 m2, .int .i64 m3, .slice none 0 0, .int .i64 0, .bool false] : Array Value).all (·.oneCell') = true) := by
  refine all_oneCell_toArray (cs := [.int .i64 m0, .int .i64 m1, .int .i64 m2, .int .i64 m3, .slice none 0 0, .int .i64 0, .bool false]) (fun c hc => ?_)
  rcases List.mem_append.1 (show c ∈ [.int .i64 m0, .int .i64 m1, .int .i64 m2, .int .i64 m3] ++ [.slice none 0 0, .int .i64 0, .bool false] from hc) with h1 | h1
  · exact OP.out c h1
  · simp only [List.mem_cons, List.not_mem_nil, or_false] at h1
    rcases h1 with rfl | rfl | rfl <;> rfl
 go_wp2_with (refine zA7 rfl 61 (.tmp 3) (.tmp 14) rfl w4.heap.size #[.int .i64 m0, .int .i64 m1, .int .i64 m2, .int .i64 m3, .slice none 0 0, .int .i64 0, .bool false] rfl rfl 61 #[.int .i64 0, .int .i64 0, .int .i64 0, .int .i64 0, .slice none 0 0, .int .i64 0, .bool false] (heap_alloc_new w4 (.cells #[.int .i64 0, .int .i64 0, .int .i64 0, .int .i64 0, .slice none 0 0, .int .i64 0, .bool false] 61)) I0.out rfl O0.out ?nexA)
 case nexA =>
  intro wA hwAh
  have hwA := hwAh.out
  have hBA : Below w4.heap.size w4 wA := by rw [hwA]; exact ((Below.refl _ _).alloc (Nat.le_refl _) _).trans ⟨rfl, rfl, rfl, by simp [World.setRow], fun k hk => setRow_other _ _ _ _ (by omega)⟩
  have gA0 : wA.heap[w4.heap.size]? = some (.cells ([.int .i64 m0, .int .i64 m1, .int .i64 m2, .int .i64 m3, .slice none 0 0, .int .i64 0, .bool false] : List Value).toArray 61 (0, 0)) := by rw [hwA]; exact setRow_heap _ _ _ _ 61 _ (heap_alloc_new w4 _)
  have zA : w4.heap.size < wA.heap.size := (Array.getElem?_eq_some_iff.1 gA0).1
  have hA := h4.ext hBA h4.1 h4.2.1
  have GA := hidI ((hBA.block _ z4).trans g4.out)
  have SA := hidI (s4.ext (hBA.mono s4.size))
  have zq : w.heap.size < q1 := by have := hq1.out; omega
  rw [hq1.out] at gA0 zA
  simp only [hq1.out]
  have G1A := hidI gA0
  have ZA := hidI zA
  clear hwA hwAh hBA gA0 zA h4 s4 g4 z4
  go_wp2_with fail
  refine (yH0 p _ _ wA hA).mono ?_
  rintro e wB ⟨N, l1, b1, rfl, hN, hcn, hB, tB⟩
  have HC := hidI hcn
  have GB := hidI ((tB.block _ (by have := ZA.out; omega) hpq.out.symm).trans GA.out)
  have G1B := hidI ((tB.block _ ZA.out (by have := hDq.out.1; omega)).trans G1A.out)
  have ZB := hidI (Nat.lt_of_lt_of_le ZA.out tB.size)
  have SB := hidI (SA.out.trans tB)
  have hpB : p < wB.heap.size := hB.1
  have hDB : D <= q1 := by have := hDq.out.2; omega
  have hpq1 : p < q1 := by have := hDq.out.1; omega
  clear hcn tB hA
  go_wp2
  go_loopw [5] (fun i wr => ∃ (k : Nat) (v : Value), k <= N /\ i = .int .i64 k /\ Hid (wr.heap[q1]? = some (.cells ([.int .i64 m0, .int .i64 m1, .int .i64 m2, .int .i64 m3, v, .int .i64 0, .bool false] : List Value).toArray 61 (0, 0))) /\ yR2 D wB p q1 zA5 209 3 k l1 b1 v wr) (fun i _ => N - (intOf i).toNat)
  case atStart => exact ⟨0, .slice none 0 0, Nat.zero_le _, rfl, G1B, [], [], l1, b1, World.ownsRow_nil _ _ _ _, ⟨rfl, rfl, rfl, Nat.le_refl _, fun _ _ _ _ => rfl⟩, hB, RdN.zero _ _ _, zE0.nil _ _ _ _⟩
  case round =>
   obtain ⟨k, v, hk, rfl, G1, xs, vsL, lk, bk, ok, sk, rk, rdk, hel⟩ := hrel
   have RDK := hidI rdk
   have HEL := hidI hel
   have SK := hidI sk
   have OK := hidI ok
   have hq1r : q1 < wr.heap.size := (Array.getElem?_eq_some_iff.1 G1.out).1
   have HQR := hidI hq1r
   clear rdk hel sk ok
   by_cases hlt : k < N
   · have hcF : wr.cell? ⟨q1, 4, none⟩ = some v := by rw [cell_of_row wr q1 4 _ 61 (0, 0) G1.out]; rfl
     have hBd : Below wr.heap.size wr wr.drew := (Below.refl _ _).drew
     have RK := hidI (rk.ext hBd rk.1 rk.2.1)
     clear rk
     go_wp2
     go_region_law (first | (refine zM2 _ rfl (.tmp 23) (.tmp 29) 59 rfl wB.heap.size 209 i0 (.agg #[.int .i64 0, .int .i64 0, .int .i64 0]) 3 24 Tryz.underlying59 HI.out HZ0.out HZ1.out HZ2.out rfl (by decide) v k xs rfl OKL.out ⟨wb.heap.size, 0, none⟩ 1 1 (#[.int .i64 m0e, z1_0, z1_1] : Array Value).toList rfl rfl (fun j u hj => zF1 wb _ _ j u hj) OE.out (by unfold maxLen; omega) (by omega) HSL.out ?_; intro v3 w3 ho3 hg3 hw3; have G3 := hidI (xD1 (es := [.int .i64 m0e, z1_0, z1_1]) OK.out G1.out (by decide) hpq1 TL.out hg3); have hcG : w3.cell? ⟨q1, 4, none⟩ = some v := (by rw [cell_of_row w3 q1 4 _ 61 (0, 0) G3.out]; rfl); have hfG : w3.frozen? ⟨q1, 4, none⟩ = false := (by simp [World.frozen?, G3.out]); obtain ⟨g3, c3, rfl⟩ := yI6 ho3; have HO3 := hidI ho3; have HG3 := hidI hg3; have HW3 := hidI hw3; clear ho3 hg3 hw3) | (go_simp; refine (xS0 p _ _ _ R0e.out).mono ?_; rintro e wb ⟨cs1e, v1e, rfl, q1e, l1e, b1e, rd1e, r1e, t1e⟩; have R1e := hidI r1e; have T1e := hidI t1e; have RD1e := hidI rd1e; have hcF1 : wb.cell? ⟨q1, 4, none⟩ = some v := (World.cell?_of_block (a := ⟨q1, 4, none⟩) (t1e.block q1 (by have := HQR.out; exact Nat.lt_of_lt_of_le this T0e.out.size) (by omega))).trans hcF0; have QE1 := hidI q1e; obtain ⟨z1_0, z1_1, rfl⟩ := zD9 cs1e q1e.len; clear q1e; clear r1e t1e rd1e; have TL : Hid (RS wr wb p) := ((xA9 wr p).trans T0e.out).trans T1e.out; have HXE : Hid (Rep wb (NBr wr.heap.size wb) zA5 [.int .i64 m0e, z1_0, z1_1] (m0e, v1e)) := yT5 m0e z1_0 z1_1 v1e (QE1.out.keptN (lo' := wr.heap.size) (Nat.le_refl _) (fun _ _ _ => rfl) T0e.out.size); have RDX : Hid (Rd zA5 lk bk (m0e, v1e) l1e b1e) := Rd.cat RD0e.out RD1e.out; have OKL := hidI ((zF8 OK.out TL.out hpB).alloc (.cells #[.int .i64 m0e, z1_0, z1_1] 209)); have HSL : Hid (wB.heap.size <= (wb.alloc (.cells #[.int .i64 m0e, z1_0, z1_1] 209)).heap.size) := (by show _ <= _; rw [World.size_alloc]; have := SK.out.size; have := TL.out.size; omega); have OE : Hid (∀ u ∈ (#[.int .i64 m0e, z1_0, z1_1] : Array Value).toList, u.oneCell' = true) := HXE.out.one; have hcL : (wb.alloc (.cells #[.int .i64 m0e, z1_0, z1_1] 209)).cell? ⟨q1, 4, none⟩ = some v := (World.cell?_of_block (a := ⟨q1, 4, none⟩) (Below.heap_alloc wb _ q1 (Nat.lt_of_lt_of_le HQR.out TL.out.size))).trans hcF1) | (go_simp; refine (zF5 p _ _ _ RK.out).mono ?_; rintro e wa ⟨m0e, rfl, _, l0e, b0e, rd0e, r0e, t0e⟩; have R0e := hidI r0e; have T0e := hidI t0e; have RD0e := hidI rd0e; have hcF0 : wa.cell? ⟨q1, 4, none⟩ = some v := (World.cell?_of_block (a := ⟨q1, 4, none⟩) (t0e.block q1 (by have := HQR.out; exact this) (by omega))).trans hcF; clear r0e t0e rd0e))
     all_goals (
      have LM := yJ5 (lf := 4) (es := [.int .i64 m0e, z1_0, z1_1]) OK.out SK.out RDK.out HEL.out G1.out (by decide) ZB.out hpB hpq1 hDB TL.out HXE.out RDX.out R1e.out HO3.out HG3.out (by first | exact HW3.out | (have := HW3.out; rw [World.size_alloc] at this; exact this))
      have LJ := hidI LM.1
      have GJ : Hid ((w3.setCell ⟨q1, 4, none⟩ (.slice (some ⟨g3, 0, none⟩) (k + 1) c3)).heap[q1]? = some (.cells ([.int .i64 m0, .int .i64 m1, .int .i64 m2, .int .i64 m3, .slice (some ⟨g3, 0, none⟩) (k + 1) c3, .int .i64 0, .bool false] : List Value).toArray 61 (0, 0))) := LM.2
      clear LM
      go_wp2
      exact ⟨⟨k + 1, .slice (some ⟨g3, 0, none⟩) (k + 1) c3, by omega, by go_num, GJ, LJ.out⟩, by simp [intOf]; omega⟩)
   · have hkN : k = N := by omega
     subst hkN
     have hvl := RDK.out.1
     obtain ⟨va, vc, hv, hrl⟩ : ∃ va vc, v = Value.slice va k vc /\ RepL wr (NB wB wr) zA5 va vsL := by
      have := zE0.done (e := 209) HEL.out (by rw [hvl]; exact OK.out) (by rw [hvl]; omega)
      rwa [hvl] at this
     subst hv
     have hvl2 : k = vsL.length := hvl.symm
     subst hvl2
     have QL := hidI (hrl.toX (lo' := w.heap.size + 1) (q := q1) (by have := ZB.out; have := SB.out.size; have := hq1.out; omega) (.inl ZB.out))
     have RDL := hidI (RdN.lst hN HC.out RDK.out)
     have GQ := hidI ((SK.out.block _ (by have := ZB.out; omega) hpq.out.symm (by omega)).trans GB.out)
     have SQ : Hid (RS w wr p) := ⟨SK.out.os.trans SB.out.os, SK.out.tape.trans SB.out.tape, SK.out.output.trans SB.out.output, Nat.le_trans SB.out.size SK.out.size, fun j hj hp => (SK.out.block j (by have := SB.out.size; omega) hp (by omega)).trans (SB.out.block j hj hp)⟩
     have hcur := rk
     clear hvl hrl rk HEL RDK SK OK
     go_wp2_with fail
     refine (zF5 p _ _ _ hcur).mono ?_
     rintro e x5 ⟨m5, rfl, _, l6, b6, rd6, r6, t6⟩
     have RD6 := hidI rd6
     clear rd6 hcur
     replace QL := hidI (QL.out.keptX t6.size (fun b h1 h2 h3 => t6.block b h3 (by have := hDq.out.1; omega)))
     have hq1u : q1 < wr.heap.size := (Array.getElem?_eq_some_iff.1 G1.out).1
     have G5x := hidI ((t6.block q1 hq1u (by omega)).trans G1.out)
     replace GQ := hidI ((t6.block _ (by omega) hpq.out.symm).trans GQ.out)
     replace SQ := hidI (SQ.out.trans t6)
     clear t6 hq1u
     have hc5 : x5.cell? ⟨q1, 5, none⟩ = some (.int .i64 0) := by rw [cell_of_row x5 q1 5 _ 61 (0, 0) G5x.out]; rfl
     have hf5 : x5.frozen? ⟨q1, 5, none⟩ = false := by simp [World.frozen?, G5x.out]
     have LA5 := zR5 (o := 5) G5x.out (.int .i64 m5)
     have hcur := r6.laid LA5 hpq1 hDB
     have G5y : Hid ((x5.setCell ⟨q1, 5, none⟩ (.int .i64 m5)).heap[q1]? = some (.cells ([.int .i64 m0, .int .i64 m1, .int .i64 m2, .int .i64 m3, .slice va vsL.length vc, .int .i64 m5, .bool false] : List Value).toArray 61 (0, 0))) := LA5.at_
     replace QL := hidI (QL.out.keptX (by rw [LA5.size]; exact Nat.le_refl _) (fun b h1 h2 h3 => LA5.block b h2))
     replace GQ := hidI ((LA5.block _ (by omega)).trans GQ.out)
     replace SQ : Hid (RS w (x5.setCell ⟨q1, 5, none⟩ (.int .i64 m5)) p) := ⟨LA5.os.trans SQ.out.os, LA5.tape.trans SQ.out.tape, LA5.output.trans SQ.out.output, by rw [LA5.size]; exact SQ.out.size, fun j hj hp => (LA5.block j (by omega)).trans (SQ.out.block j hj hp)⟩
     clear LA5 G5x r6
     go_wp2_with fail
     refine (yK4 p _ _ _ hcur).mono ?_
     rintro e x6 ⟨m6, rfl, l7, b7, rd7, r7, t7⟩
     have RD7 := hidI rd7
     clear rd7 hcur
     replace QL := hidI (QL.out.keptX t7.size (fun b h1 h2 h3 => t7.block b h3 (by have := hDq.out.1; omega)))
     have hq1u : q1 < (x5.setCell ⟨q1, 5, none⟩ (.int .i64 m5)).heap.size := (Array.getElem?_eq_some_iff.1 G5y.out).1
     have G6x := hidI ((t7.block q1 hq1u (by omega)).trans G5y.out)
     replace GQ := hidI ((t7.block _ (by omega) hpq.out.symm).trans GQ.out)
     replace SQ := hidI (SQ.out.trans t7)
     clear t7 hq1u
     have hc6 : x6.cell? ⟨q1, 6, none⟩ = some (.bool false) := by rw [cell_of_row x6 q1 6 _ 61 (0, 0) G6x.out]; rfl
     have hf6 : x6.frozen? ⟨q1, 6, none⟩ = false := by simp [World.frozen?, G6x.out]
     have LA6 := zR5 (o := 6) G6x.out (.bool m6)
     have hcur := r7.laid LA6 hpq1 hDB
     have G6y : Hid ((x6.setCell ⟨q1, 6, none⟩ (.bool m6)).heap[q1]? = some (.cells ([.int .i64 m0, .int .i64 m1, .int .i64 m2, .int .i64 m3, .slice va vsL.length vc, .int .i64 m5, .bool m6] : List Value).toArray 61 (0, 0))) := LA6.at_
     replace QL := hidI (QL.out.keptX (by rw [LA6.size]; exact Nat.le_refl _) (fun b h1 h2 h3 => LA6.block b h2))
     replace GQ := hidI ((LA6.block _ (by omega)).trans GQ.out)
     replace SQ : Hid (RS w (x6.setCell ⟨q1, 6, none⟩ (.bool m6)) p) := ⟨LA6.os.trans SQ.out.os, LA6.tape.trans SQ.out.tape, LA6.output.trans SQ.out.output, by rw [LA6.size]; exact SQ.out.size, fun j hj hp => (LA6.block j (by omega)).trans (SQ.out.block j hj hp)⟩
     clear LA6 G6x r7
     have REP : Hid (Rep (x6.setCell ⟨q1, 6, none⟩ (.bool m6)) (NX (w.heap.size + 1) q1 (x6.setCell ⟨q1, 6, none⟩ (.bool m6))) zB9 [.int .i64 m0, .int .i64 m1, .int .i64 m2, .int .i64 m3, .slice va vsL.length vc, .int .i64 m5, .bool m6] (m0, m1, m2, m3, vsL, m5, m6)) := by
      exact xC7 m0 m1 m2 m3 va vc vsL m5 m6 QL.out
     have RDA : Hid (Rd zB9 l bad (m0, m1, m2, m3, vsL, m5, m6) l7 b7) := (Rd.cat RD1.out (Rd.cat RD2.out (Rd.cat RD3.out (Rd.cat RD4.out (Rd.cat RDL.out (Rd.cat RD6.out RD7.out))))))
     have IF : Hid ((Tryz.prog.info? 61).map (·.size) = some (#[.int .i64 m0, .int .i64 m1, .int .i64 m2, .int .i64 m3, .slice va vsL.length vc, .int .i64 m5, .bool m6] : Array Value).size) := by show _ = _; kernel_rfl
     have OF : Hid ((#[.int .i64 m0, .int .i64 m1, .int .i64 m2, .int .i64 m3, .slice va vsL.length vc, .int .i64 m5, .bool m6] : Array Value).all (·.oneCell') = true) := REP.out.all
     have HCUR := hidI hcur
     clear hcur
     go_wp2_with (first
      | (refine wpList_load_row rfl 61 (.tmp 3) rfl q1 rfl 61 #[.int .i64 m0, .int .i64 m1, .int .i64 m2, .int .i64 m3, .slice va vsL.length vc, .int .i64 m5, .bool m6] (0, 0) _ G6y.out Tryz.underlying61 rfl IF.out ?_)
      | (refine wpList_store_row rfl 61 (.tmp 2) (.tmp 38) rfl w.heap.size #[.int .i64 m0, .int .i64 m1, .int .i64 m2, .int .i64 m3, .slice va vsL.length vc, .int .i64 m5, .bool m6] rfl rfl 61 #[.int .i64 0, .int .i64 0, .int .i64 0, .int .i64 0, .slice none 0 0, .int .i64 0, .bool false] GQ.out IF.out rfl OF.out ?_))
     refine bodyPost_ret (v := .agg #[.int .i64 m0, .int .i64 m1, .int .i64 m2, .int .i64 m3, .slice va vsL.length vc, .int .i64 m5, .bool m6]) ?_ rfl ⟨[.int .i64 m0, .int .i64 m1, .int .i64 m2, .int .i64 m3, .slice va vsL.length vc, .int .i64 m5, .bool m6], _, rfl, ?_, l7, b7, RDA.out, ?_, ?_⟩
     · refine results_cell_row Tryz.results129 _ _ w.heap.size 61 _ (0, 0) _ ?_ (setRow_heap (x6.setCell ⟨q1, 6, none⟩ (.bool m6)) w.heap.size _ _ 61 _ GQ.out) Tryz.underlying61 rfl IF.out
       rfl
     · exact (REP.out.keptX (by simp [World.setRow]) (fun b h1 h2 h3 => setRow_other _ _ _ _ (by omega))).unX (Nat.le_succ _)
     · exact HCUR.out.ext ⟨rfl, rfl, rfl, by simp [World.setRow], fun k hk => setRow_other _ _ _ _ (by omega)⟩ hDq.out.1 hDq.out.2
     · exact SQ.out.setRow (Nat.le_refl _) _
end
end Go.Proofs.YtocoimjhglackaaGreat
