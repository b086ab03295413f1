/- Several texts in one (wip/gen/group.py). -/
import Derived.Test.YtblofbdncolikaaWa
/- Iterators whose own loops range over iterators: their contract, and the law for who ranges over one. What the loop's body owns (O) it may write; all else stays. -/
namespace Go.Proofs.Ytblofbdncolikaa
open Go.RowKit Go.Shelf
attribute [local go_sem] Oper.semAt_some
/- who owned O and now owns O' has written nothing else -/
structure Frm (O O' : Nat → Prop) (W W' : World) : Prop where
  sub : ∀ k, O' k → O k ∨ W.heap.size ≤ k
  same : ∀ k, k < W.heap.size → ¬ O k → W'.heap[k]? = W.heap[k]?
  size : W.heap.size ≤ W'.heap.size
  lt : ∀ k, O' k → k < W'.heap.size
  ex : W'.os = W.os ∧ W'.tape = W.tape ∧ W'.output = W.output
theorem Frm.trans {O O' O'' : Nat → Prop} {A B C : World} (h : Frm O O' A B) (k : Frm O' O'' B C) : Frm O O'' A C :=
  ⟨fun i hi => by
    rcases k.sub i hi with h1 | h1
    · exact h.sub i h1
    · exact .inr (Nat.le_trans h.size h1),
   fun i hi ho => (k.same i (Nat.lt_of_lt_of_le hi h.size) (fun h1 => (h.sub i h1).elim ho (fun h2 => absurd hi (by omega)))).trans (h.same i hi ho),
   Nat.le_trans h.size k.size, k.lt, k.ex.1.trans h.ex.1, k.ex.2.1.trans h.ex.2.1, k.ex.2.2.trans h.ex.2.2⟩
theorem Frm.refl {O : Nat → Prop} {W : World} (h : ∀ k, O k → k < W.heap.size) : Frm O O W W := ⟨fun _ h => .inl h, fun _ _ _ => rfl, Nat.le_refl _, h, rfl, rfl, rfl⟩
theorem Frm.bel {O : Nat → Prop} {W W' : World} (h : ∀ k, O k → k < W.heap.size) (hb : Below W.heap.size W W') : Frm O O W W' := ⟨fun _ h => .inl h, fun k hk _ => hb.block k hk, hb.size, fun k hk => Nat.lt_of_lt_of_le (h k hk) hb.size, hb.os, hb.tape, hb.output⟩
theorem Frm.out {O O' : Nat → Prop} {W W' : World} (h : Frm O O' W W') {k : Nat} (hk : k < W.heap.size) (ho : ¬ O k) : ¬ O' k := fun h1 => (h.sub k h1).elim ho (fun h2 => absurd hk (by omega))
/- what speaks of the blocks that it owns alone -/
theorem Frm.below {O O' : Nat → Prop} {W W' : World} (h : Frm O O' W W') {B : Nat} (hB : B ≤ W.heap.size) (ho : ∀ k, k < B → ¬ O k) : Below B W W' := ⟨h.ex.1, h.ex.2.1, h.ex.2.2, h.size, fun k hk => h.same k (by omega) (ho k hk)⟩
def Sup {α : Type} (f : (Nat → Prop) → List α → World → Prop) : Prop := ∀ O pre W W', f O pre W → (∀ k, O k → W'.heap[k]? = W.heap[k]?) → W.heap.size ≤ W'.heap.size → f O pre W'
def SeqY {α : Type} (n g : Nat) (lb : Array Value) (encs : α → Array Value) (Q : Nat → Prop) (S : List α) (w : World) : Prop :=
  ∀ (l : Nat) (f fx : (Nat → Prop) → List α → World → Prop) (O : Nat → Prop) (W : World), Kq Q w W → Sup f → Sup fx → (∀ k, O k → k < W.heap.size) → (∀ k, Q k → ¬ O k) →
    (∀ O1 pre x W1, f O1 pre W1 → (∀ k, O1 k → k < W1.heap.size) → Frm O O1 W W1 → (pre ++ [x]) <+: S → YieldAt Fence.wide (n - 1) Try.prog l (encs x) W1 fun e W' =>
      ∃ O', Frm O1 O' W1 W' ∧ ((e = .returned (.bool true) ∧ f O' (pre ++ [x]) W') ∨ (e = .returned (.bool false) ∧ fx O' (pre ++ [x]) W'))) →
    f O [] W →
    CallsIn Fence.wide n Try.prog g (#[.func (.yield l) #[] #[]] ++ lb) W fun e W' => (∃ v, e = .returned v) ∧ ∃ O', Frm O O' W W' ∧ (f O' S W' ∨ ∃ pre, pre <+: S ∧ fx O' pre W')
def postY {α : Type} (O : Nat → Prop) (I Ix : (Nat → Prop) → List α → World → Prop) (xs : List α) (W : World) : Exit → Act → World → Prop
  | .normal, _, W' => ∃ O', Frm O O' W W' ∧ I O' xs W'
  | .ret, _, W' => ∃ O', Frm O O' W W' ∧ Ix O' xs W'
  | _, _, _ => False
theorem put_same {W : World} {l k : Nat} (o' : Obj) (h : k ≠ l) : (W.putObj l o').heap[k]? = W.heap[k]? := by
  exact World.putObj_heap_other h
theorem put_size (W : World) (l : Nat) (o' : Obj) : (W.putObj l o').heap.size = W.heap.size := by simp [World.putObj]
theorem Frm.put {O O' : Nat → Prop} {W W' : World} (h : Frm O O' W W') {l : Nat} (o' : Obj) (hl : W.heap.size ≤ l) : Frm O O' W (W'.putObj l o') :=
  ⟨h.sub, fun k hk ho => (put_same o' (by omega)).trans (h.same k hk ho), by rw [put_size]; exact h.size, fun k hk => by rw [put_size]; exact h.lt k hk, h.ex⟩
theorem Frm.put1 {O O' : Nat → Prop} {W W' : World} (h : Frm O O' W W') {l : Nat} (o' : Obj) (hl : O l) : Frm O O' W (W'.putObj l o') :=
  ⟨h.sub, fun k hk ho => (put_same o' (fun e => ho (by rw [e]; exact hl))).trans (h.same k hk ho), by rw [put_size]; exact h.size, fun k hk => by rw [put_size]; exact h.lt k hk, h.ex⟩
set_option maxHeartbeats 1000000 in
theorem wp_seqY {α : Type} {n : Nat} {g : Operand} {ps : Array Tmp} {assign body : Code} {Q : Exit → Act → World → Prop} {a : Act} {w : World}
    {gf : Nat} {lb : Array Value} (hg : a.eval g = .func (.func gf) #[] lb) (eg : ∀ args w, (callFunc gf args).run Try.prog w = .ok (.enter gf args) w)
    {encs : α → Array Value} {K : Nat → Prop} {S : List α} {w0 : World} (hseq : SeqY (n - 1) gf lb encs K S w0) (hb0 : Kq K w0 w) (hps : ∀ x, (encs x).size = ps.size)
    (I Ix : (Nat → Prop) → List α → World → Prop) (hI : Sup I) (hIx : Sup Ix) (O : Nat → Prop) (hO : ∀ k, O k → k < w.heap.size) (hK : ∀ k, K k → ¬ O k ∧ k < w.heap.size) (h0 : I O [] w)
    (hround : ∀ (l : Nat) (O1 : Nat → Prop) (pre : List α) (x : α) (W : World) (C : Act → World → Prop), (∀ k, O1 k → k < W.heap.size) → I O1 pre W → (pre ++ [x]) <+: S → w.heap.size ≤ W.heap.size →
      (∀ a' W', Below W.heap.size W W' → (∀ W2, (∀ k, k ≠ l → W2.heap[k]? = W'.heap[k]?) → W2.heap.size = W'.heap.size → (∃ r, W2.heap[l]? = some (.loop r)) → l < W.heap.size → w.heap.size ≤ l → ¬ O1 l → Frm O O1 w W2 → I O1 pre W2 → body.wpIn (Fence.wide.inRound l) (n - 1 - 1) Try.prog (postY O1 I Ix (pre ++ [x]) W2) a' W2) → C a' W') →
      assign.wpIn (Fence.wide.inRound l) (n - 1 - 1) Try.prog (Exit.then C (fun _ _ _ => False)) { tmps := (ps.zip (encs x)).foldl (fun t (p, v) => t.setIfInBounds p v) a.tmps, defers := [] } W)
    (hdone : ∀ (D : Nat) (O' : Nat → Prop) (W : World), w.heap.size ≤ D → ¬ O' D → Frm O O' w W → I O' S W → W.heap[D]? = some (.deferred (some [])) → Q .normal { a with defers := { target := .collected D, args := #[] } :: a.defers } W)
    (hstop : ∀ (D : Nat) (O' : Nat → Prop) (pre : List α) (W : World), w.heap.size ≤ D → ¬ O' D → Frm O O' w W → pre <+: S → Ix O' pre W → W.heap[D]? = some (.deferred (some [])) → Code.ret.wpIn Fence.wide n Try.prog Q { a with defers := { target := .collected D, args := #[] } :: a.defers } W) :
    (Code.rangeFunc g ps assign body).wpIn Fence.wide n Try.prog Q a w := by
  refine wpIn_rangeFunc fun fn hfn => ?_
  let rec' : LoopState → Option Code → Loop := fun st pe => { state := st, pending := pe, fn, tmps := a.tmps, params := ps, assign, body, defers := w.heap.size }
  obtain ⟨rc, hrc⟩ : ∃ r : LoopState → Option Code → Loop, r = rec' := ⟨_, rfl⟩
  obtain ⟨W1, hW1⟩ : ∃ W1, (w.alloc (.deferred (some []))).alloc (.loop (rc .ready none)) = W1 := ⟨_, rfl⟩
  have hz : W1.heap.size = w.heap.size + 2 := by rw [← hW1]; simp
  have hbw : Below w.heap.size w W1 := by rw [← hW1]; exact below2 w _ _
  have hL1 : W1.heap[w.heap.size + 1]? = some (.loop (rc .ready none)) := by
    have := World.alloc_heap_new (w.alloc (.deferred (some []))) (.loop (rc .ready none))
    rwa [World.size_alloc, hW1] at this
  have hD1 : W1.heap[w.heap.size]? = some (.deferred (some [])) := by
    rw [← hW1]; exact (Below.heap_alloc _ _ _ (by simp)).trans (World.alloc_heap_new w _)
  have hb1 : Kq K w0 W1 := hb0.trans (Kq.bel hbw (fun k hk => (hK k hk).2))
  have hF1 : Frm O O w W1 := Frm.bel hO hbw
  refine ⟨w.heap.size + 1, [{ target := .collected w.heap.size, args := #[] }], W1, { target := .fn (.func gf) lb, args := #[.func (.yield (w.heap.size + 1)) #[] #[]] }, W1, gf, #[.func (.yield (w.heap.size + 1)) #[] #[]] ++ lb, W1, ?_, ?_, ?_, ?_, fun h => by simp [Fence.wide] at h, ?_⟩
  · rw [← hW1, hrc]; exact run_enterLoop_outer _ _ _ _ _
  · simp only [resolve, hg]
    simp [go_sem]
  · intro f' hf'; simp [Target.leads] at hf'; subst hf'; trivial
  · simp [invoke, go_sem, eg]
  · obtain ⟨d, hd⟩ : ∃ d, w.heap.size = d := ⟨_, rfl⟩
    have hdr : ∀ st pe, (rc st pe) = { state := st, pending := pe, fn, tmps := a.tmps, params := ps, assign, body, defers := d } := fun st pe => by rw [hrc, ← hd]
    rw [hd] at hL1 hD1 hz ⊢
    obtain ⟨ext, hext⟩ : ∃ e : (Nat → Prop) → Nat → Prop, e = fun O k => O k ∨ k = d ∨ k = d + 1 := ⟨_, rfl⟩
    have hx : ∀ O k, ext O k ↔ O k ∨ k = d ∨ k = d + 1 := fun O k => by rw [hext]
    obtain ⟨G, hGd⟩ : ∃ G : ((Nat → Prop) → List α → World → Prop) → Loop → (Nat → Prop) → List α → World → Prop, G = fun H lp O' pre W => ∃ O1, O' = ext O1 ∧ ¬ O1 d ∧ ¬ O1 (d + 1) ∧ H O1 pre W ∧ W.heap[d + 1]? = some (.loop lp) ∧ W.heap[d]? = some (.deferred (some [])) := ⟨_, rfl⟩
    have hG : ∀ H lp, Sup H → Sup (G H lp) := fun H lp hH O' pre A B hs hk hsz => by
      rw [hGd] at hs ⊢
      obtain ⟨O1, rfl, n1, n2, h1, h2, h3⟩ := hs
      exact ⟨O1, rfl, n1, n2, hH _ _ _ _ h1 (fun k hk1 => hk k ((hx _ _).2 (.inl hk1))) hsz, (hk _ ((hx _ _).2 (.inr (.inr rfl)))).trans h2, (hk _ ((hx _ _).2 (.inr (.inl rfl)))).trans h3⟩
    have hU : ∀ k, k = d ∨ k = d + 1 → ¬ O k := fun k hk ho => by have := hO k ho; omega
    refine (hseq (d + 1) (G I (rc .ready none)) (G Ix (rc .done (some .ret))) (ext O) W1 hb1 (hG _ _ hI) (hG _ _ hIx)
      (fun k hk => ((hx _ _).1 hk).elim (fun h => hF1.lt k h) (fun h => by omega))
      (fun k hk ho => by
        rcases (hx _ _).1 ho with h | h
        · exact (hK k hk).1 h
        · have := (hK k hk).2; omega)
      ?_ (by rw [hGd]; exact ⟨O, rfl, hU _ (.inl rfl), hU _ (.inr rfl), hI _ _ _ _ h0 (fun k hk => hbw.block k (hO k hk)) hbw.size, hL1, hD1⟩)).mono ?_
    · rintro O' pre x W hs hlt hFy hp
      rw [hGd] at hs
      obtain ⟨O1, rfl, n1, n2, hi, hl, hk⟩ := hs
      have hlW := heap_lt hl
      have hFw : Frm O O1 w W := ⟨fun k hk => by
          rcases hFy.sub k ((hx _ _).2 (.inl hk)) with h1 | h1
          · rcases (hx _ _).1 h1 with h2 | h2 | h2
            · exact .inl h2
            · exact absurd hk (h2 ▸ n1)
            · exact absurd hk (h2 ▸ n2)
          · exact .inr (by omega),
        fun k hk ho => (hFy.same k (by omega) (fun h1 => ((hx _ _).1 h1).elim ho (fun h2 => by omega))).trans (hbw.block k hk),
        by have := hFy.size; omega, fun k hk => hFy.lt k ((hx _ _).2 (.inl hk)), hFy.ex.1.trans hbw.os, hFy.ex.2.1.trans hbw.tape, hFy.ex.2.2.trans hbw.output⟩
      have hy := run_yield (P := Try.prog) (args := encs x) hl (by rw [hdr]; exact hps x)
      rw [hdr] at hy
      refine ⟨fn, _, assign, body, hy, roundIn_of_wpIn hfn (hround (d + 1) O1 pre x W _ (fun k hk => hlt k ((hx _ _).2 (.inl hk))) hi hp (by omega) ?_)⟩
      clear hy
      intro a' Wa hbl hgo
      have hla := (hbl.block _ hlW).trans hl
      have hka := (hbl.block d (by omega)).trans hk
      have hsa := hbl.size
      refine ⟨_, run_beginRound hla (by rw [hdr]), ?_⟩
      obtain ⟨Wb, hWb⟩ : ∃ Wb, Wa.putObj (d + 1) (.loop { rc .ready none with state := .busy }) = Wb := ⟨_, rfl⟩
      have hsb : Wb.heap.size = Wa.heap.size := by rw [← hWb]; exact put_size _ _ _
      have hlb : Wb.heap[d + 1]? = some (.loop { rc .ready none with state := .busy }) := by rw [← hWb]; exact World.putObj_heap_same (heap_lt hla)
      have hob : ∀ k, k ≠ d + 1 → Wb.heap[k]? = Wa.heap[k]? := fun k hk => by rw [← hWb]; exact put_same _ hk
      have hlo : ∀ k, O1 k → k < W.heap.size := fun k hk => hlt k ((hx _ _).2 (.inl hk))
      have hexb : Wb.os = W.os ∧ Wb.tape = W.tape ∧ Wb.output = W.output := by rw [← hWb]; exact ⟨hbl.os, hbl.tape, hbl.output⟩
      have hib : I O1 pre Wb := hI _ _ _ _ hi (fun k hk => (hob k (fun e => n2 (e ▸ hk))).trans (hbl.block k (hlo k hk))) (by omega)
      rw [hWb]
      have hFb : Frm O O1 w Wb := ⟨hFw.sub, fun k hk ho => (hob k (by omega)).trans ((hbl.block k (by have := hFw.size; omega)).trans (hFw.same k hk ho)), by have := hFw.size; omega, fun k hk => by have := hlo k hk; omega, hexb.1.trans hFw.ex.1, hexb.2.1.trans hFw.ex.2.1, hexb.2.2.trans hFw.ex.2.2⟩
      refine wpIn_mono (hgo Wb hob hsb ⟨_, hlb⟩ hlW (by omega) n2 hFb hib) ?_
      have fin : ∀ (jump : Option Code) (W3 : World) (O3 : Nat → Prop), Frm O1 O3 Wb W3 →
          (Instr.endRound (d + 1) jump).run Try.prog W3 = .ok (.bool jump.isNone) (W3.putObj (d + 1) (.loop (rc (if jump.isNone then .ready else .done) jump))) ∧
          Frm (ext O1) (ext O3) W (W3.putObj (d + 1) (.loop (rc (if jump.isNone then .ready else .done) jump))) ∧
          (∀ (H : (Nat → Prop) → List α → World → Prop) ys, Sup H → H O3 ys W3 → G H (rc (if jump.isNone then .ready else .done) jump) (ext O3) ys (W3.putObj (d + 1) (.loop (rc (if jump.isNone then .ready else .done) jump)))) := fun jump W3 O3 h3 => by
        have m1 : ¬ O3 d := h3.out (by omega) n1
        have m2 : ¬ O3 (d + 1) := h3.out (by omega) n2
        have hl3 := (h3.same (d + 1) (by omega) n2).trans hlb
        have hk3 := (h3.same d (by omega) n1).trans ((hob d (by omega)).trans hka)
        have hs3 := h3.size
        have hr := run_endRound (P := Try.prog) jump hl3
        refine ⟨by rw [hdr] at hr; rw [hdr]; exact hr, ⟨fun k hk => ?_, fun k hk ho => ?_, by rw [put_size]; omega, fun k hk => ?_, h3.ex.1.trans hexb.1, h3.ex.2.1.trans hexb.2.1, h3.ex.2.2.trans hexb.2.2⟩, fun H ys hH h => ?_⟩
        · rcases (hx _ _).1 hk with h | h
          · rcases h3.sub k h with h | h
            · exact .inl ((hx _ _).2 (.inl h))
            · exact .inr (by omega)
          · exact .inl ((hx _ _).2 (.inr h))
        · have e1 : k ≠ d + 1 := fun e => ho ((hx _ _).2 (.inr (.inr e)))
          exact (put_same _ e1).trans ((h3.same k (by omega) (fun h => ho ((hx _ _).2 (.inl h)))).trans ((hob k e1).trans (hbl.block k hk)))
        · rw [put_size]
          rcases (hx _ _).1 hk with h | h
          · exact h3.lt k h
          · omega
        · rw [hGd]
          exact ⟨O3, rfl, m1, m2, hH _ _ _ _ h (fun k hk => put_same _ (fun e => m2 (e ▸ hk))) (by rw [put_size]; exact Nat.le_refl _), World.putObj_heap_same (heap_lt hl3), (put_same _ (by omega)).trans hk3⟩
      rintro e a3 W3 hp3
      cases e with
      | normal =>
        obtain ⟨O3, f3, i3⟩ := hp3
        obtain ⟨hr, hf, hg3⟩ := fin none W3 O3 f3
        exact ⟨_, _, hr, ext O3, hf, .inl ⟨rfl, hg3 _ _ hI i3⟩⟩
      | ret =>
        obtain ⟨O3, f3, i3⟩ := hp3
        obtain ⟨hr, hf, hg3⟩ := fin (some .ret) W3 O3 f3
        exact ⟨_, _, hr, ext O3, hf, .inr ⟨rfl, hg3 _ _ hIx i3⟩⟩
      | exit id => exact hp3.elim
      | goto t => exact hp3.elim
      | panic ch => exact hp3.elim
      | outgrown => exact hp3.elim
    · have back : ∀ (O1 : Nat → Prop) (W2 : World) (o' : Obj), ¬ O1 d → ¬ O1 (d + 1) → Frm (ext O) (ext O1) W1 W2 → Frm O O1 w (W2.putObj (d + 1) o') := fun O1 W2 o' m1 m2 h => by
        have hs2 := h.size
        refine ⟨fun k hk => ?_, fun k hk ho => ?_, by rw [put_size]; omega, fun k hk => by rw [put_size]; exact h.lt k ((hx _ _).2 (.inl hk)), h.ex.1.trans hbw.os, h.ex.2.1.trans hbw.tape, h.ex.2.2.trans hbw.output⟩
        · rcases h.sub k ((hx _ _).2 (.inl hk)) with h1 | h1
          · rcases (hx _ _).1 h1 with h2 | h2 | h2
            · exact .inl h2
            · exact absurd hk (h2 ▸ m1)
            · exact absurd hk (h2 ▸ m2)
          · exact .inr (by omega)
        · exact (put_same _ (by omega)).trans ((h.same k (by omega) (fun h1 => ((hx _ _).1 h1).elim ho (fun h2 => by omega))).trans (hbw.block k hk))
      rintro e W2 ⟨⟨v, rfl⟩, O', hF, (hs | ⟨pre, hp, hs⟩)⟩
      · rw [hGd] at hs
        obtain ⟨O1, rfl, n1, n2, hi, hl, hk⟩ := hs
        exact ⟨none, _, by have := run_endLoop (P := Try.prog) hl (by rw [hdr]; simp); rw [hdr] at this; exact this, hdone _ O1 _ (Nat.le_of_eq hd) n1 (back O1 W2 _ n1 n2 hF) (hI _ _ _ _ hi (fun k hk => put_same _ (fun e => n2 (e ▸ hk))) (by rw [put_size]; exact Nat.le_refl _)) ((put_same _ (by omega)).trans hk)⟩
      · rw [hGd] at hs
        obtain ⟨O1, rfl, n1, n2, hi, hl, hk⟩ := hs
        exact ⟨some .ret, _, by have := run_endLoop (P := Try.prog) hl (by rw [hdr]; simp); rw [hdr] at this; exact this, hstop _ O1 pre _ (Nat.le_of_eq hd) n1 (back O1 W2 _ n1 n2 hF) hp (hIx _ _ _ _ hi (fun k hk => put_same _ (fun e => n2 (e ▸ hk))) (by rw [put_size]; exact Nat.le_refl _)) ((put_same _ (by omega)).trans hk)⟩
theorem roundIn_any {m m' : Nat} {P : Program} {l : Nat} {f : FuncId} {tmps : Array Value} {assign body : Code} {w : World} {R : Ending → World → Prop}
    (h : RoundIn Fence.wide m P l f tmps assign body w R) : RoundIn Fence.wide m' P l f tmps assign body w R := ⟨h.1, fun c cs _ => h.2 c cs (fun d hd => by cases hd)⟩
theorem yieldAt_any {m : Nat} (m' : Nat) {P : Program} {l : Nat} {args : Array Value} {W : World} {R : Ending → World → Prop} (h : YieldAt Fence.wide m P l args W R) : YieldAt Fence.wide m' P l args W R := by
  obtain ⟨fn, tmps, assign, body, hy, hR⟩ := h
  exact ⟨fn, tmps, assign, body, hy, roundIn_any hR⟩
/- a function that ranged several times gives up its marks, one by one -/
theorem leaves_all {n : Nat} {fn : Func} {tmps : Array Value} {R : Ending → World → Prop} (Pw : World → Prop) (v : Value) (hres : ∀ W, (results fn tmps).run Try.prog W = .ok v W) (hR : ∀ W, Pw W → R (.returned v) W) :
    ∀ (Ds : List Nat) (W : World), Ds.Nodup → (∀ D ∈ Ds, W.heap[D]? = some (.deferred (some []))) → (∀ W D, D ∈ Ds → Pw W → Pw (W.putObj D (.deferred none))) → Pw W → LeavesInM Fence.wide n Try.prog fn tmps R (Ds.map fun D => { target := .collected D, args := #[] }) .returning W
  | [], W, _, _, _, h => ⟨v, hres W, hR W h⟩
  | D :: Ds, W, hn, hd, hp, h => by
    rw [List.nodup_cons] at hn
    refine ⟨by simp, .inl ⟨D, _, rfl, run_takeDeferred (hd D (by simp)), ?_⟩⟩
    refine leaves_all Pw v hres hR Ds _ hn.2 (fun E hE => ?_) (fun W' E hE => hp W' E (by simp [hE])) (hp _ _ (by simp) h)
    exact (put_same _ (fun e => hn.1 (by rw [← e]; exact hE))).trans (hd E (by simp [hE]))
end Go.Proofs.Ytblofbdncolikaa

/- The indexes of a group, one by one: the code's two inner iterators. -/
namespace Go.Proofs.Ytblofbdncolikaa
open Go.RowKit Go.Shelf
attribute [local go_sem] Oper.semAt_some
def ups (k : Nat) : List Int := (List.range k).map (fun j : Nat => (j : Int))
theorem ups_succ (k : Nat) : ups (k + 1) = ups k ++ [(k : Int)] := by simp [ups, List.range_succ]
theorem ups_len (k : Nat) : (ups k).length = k := by simp [ups]
theorem ups_pre {k n : Nat} (h : k ≤ n) : ups k <+: ups n := by
 obtain ⟨d, rfl⟩ := Nat.exists_eq_add_of_le h
 clear h
 induction d with
 | zero => exact List.prefix_refl _
 | succ d ih => rw [← Nat.add_assoc, ups_succ]; exact ih.trans (List.prefix_append _ _)
def cnN (c : Int) : Nat := (min c 4).toNat
def iC (x : Int) : List Value := [.int .i64 x]
theorem take_snoc {α : Type} (L : List α) (k : Nat) (h : k < L.length) : L.take (k + 1) = L.take k ++ [L[k]] := by rw [List.take_add_one, List.getElem?_eq_getElem h]; rfl
set_option maxHeartbeats 1000000 in
theorem it45 (n Bg : Nat) (c : Int) (Q : Nat → Prop) (w : World) (_hQ : ∀ k, Q k → k < w.heap.size) (hB : Q Bg) (hc : w.cell? ⟨Bg, 0, none⟩ = some (.int .i64 c)) :
  SeqY n 72 #[.pointer (some ⟨Bg, 0, none⟩)] (fun i : Int => #[.int .i64 i]) Q (ups (cnN c)) w := fun l f fx O W hW hf hfx hO hQO hY h0 => by
 have hc' := (World.cell?_of_block (hW.block _ hB)).trans hc
 refine callsIn_of_wp Try.func72 rfl trivial ?_ rfl
 simp only [Try.ntmps72, List.size_toArray, List.length_cons, List.length_nil, Nat.reduceAdd, Nat.reduceSub, Array.replicate_succ, Array.replicate_zero, List.push_toArray, List.append_toArray, List.nil_append, List.cons_append]
 obtain ⟨NN, hNN⟩ : ∃ NN, cnN c = NN := ⟨_, rfl⟩
 have HN := hidOf hNN
 rw [hNN] at hY ⊢
 clear hNN
 gi_wp2
 ·gi_loopw [7] (fun i wr => ∃ (k : Nat) (O1 : Nat → Prop), k ≤ NN ∧ i = .int .i64 k ∧ f O1 (ups k) wr ∧ Frm O O1 W wr) (fun i _ => NN - (intOf i).toNat)
  case atStart => exact ⟨0, O, Nat.zero_le _, rfl, h0, Frm.refl hO⟩
  case round =>
   obtain ⟨k, O1, hk, rfl, hf1, hF1⟩ := hrel
   have hsz := hF1.size
   have _hz := hf1
   by_cases hlt : k < NN
   ·have hlt2 : (k : Int) < 4 := by have := HN.out; unfold cnN at this; omega
    have hpre : (ups k) ++ [(k : Int)] <+: ups NN := (by rw [← ups_succ]; exact ups_pre hlt)
    obtain ⟨fn, tmps, assign, body, hy, hR⟩ := hY O1 _ (k : Int) wr hf1 hF1.lt hF1 hpre
    try dsimp only at hy
    have HF := hidOf hF1
    have HP := hidOf hpre
    clear hY hF1 hf1 hpre
    gi_wp2
    refine ⟨fun h => (by cases h), hR.mono ?_⟩
    rintro e W3 ⟨O3, hF3, (⟨rfl, hf3⟩ | ⟨rfl, hx3⟩)⟩
    ·gi_wp2
     go_roundw
     case rel => exact ⟨k + 1, O3, by omega, by simp, by rw [ups_succ]; exact hf3, HF.out.trans hF3⟩
     case measure => simp [intOf]; omega
    ·gi_wp2
     refine bodyPost_ret (results_none rfl _ _ _) rfl ?_
     exact ⟨⟨_, rfl⟩, O3, HF.out.trans hF3, .inr ⟨_, HP.out, hx3⟩⟩
   ·have hno : 4 ≤ (k : Int) := by have := HN.out; unfold cnN at this; omega
    have hkl : k = NN := by omega
    subst hkl
    gi_wp2
    go_end0
    exact ⟨⟨_, rfl⟩, O1, hF1, .inl (by simpa using hf1)⟩
 ·gi_loopw [7] (fun i wr => ∃ (k : Nat) (O1 : Nat → Prop), k ≤ NN ∧ i = .int .i64 k ∧ f O1 (ups k) wr ∧ Frm O O1 W wr) (fun i _ => NN - (intOf i).toNat)
  case atStart => exact ⟨0, O, Nat.zero_le _, rfl, h0, Frm.refl hO⟩
  case round =>
   obtain ⟨k, O1, hk, rfl, hf1, hF1⟩ := hrel
   have hsz := hF1.size
   have _hz := hf1
   by_cases hlt : k < NN
   ·have hlt2 : (k : Int) < c := by have := HN.out; unfold cnN at this; omega
    have hpre : (ups k) ++ [(k : Int)] <+: ups NN := (by rw [← ups_succ]; exact ups_pre hlt)
    obtain ⟨fn, tmps, assign, body, hy, hR⟩ := hY O1 _ (k : Int) wr hf1 hF1.lt hF1 hpre
    try dsimp only at hy
    have HF := hidOf hF1
    have HP := hidOf hpre
    clear hY hF1 hf1 hpre
    gi_wp2
    refine ⟨fun h => (by cases h), hR.mono ?_⟩
    rintro e W3 ⟨O3, hF3, (⟨rfl, hf3⟩ | ⟨rfl, hx3⟩)⟩
    ·gi_wp2
     go_roundw
     case rel => exact ⟨k + 1, O3, by omega, by simp, by rw [ups_succ]; exact hf3, HF.out.trans hF3⟩
     case measure => simp [intOf]; omega
    ·gi_wp2
     refine bodyPost_ret (results_none rfl _ _ _) rfl ?_
     exact ⟨⟨_, rfl⟩, O3, HF.out.trans hF3, .inr ⟨_, HP.out, hx3⟩⟩
   ·have hno : c ≤ (k : Int) := by have := HN.out; unfold cnN at this; omega
    have hkl : k = NN := by omega
    subst hkl
    gi_wp2
    go_end0
    exact ⟨⟨_, rfl⟩, O1, hF1, .inl (by simpa using hf1)⟩
set_option maxHeartbeats 1000000 in
theorem it46 (n Bg : Nat) (a : Option Addr) (cap : Nat) (L : List Int) (Q : Nat → Prop) (w : World) (hQ : ∀ k, Q k → k < w.heap.size) (hB : Q Bg) (hc : w.cell? ⟨Bg, 0, none⟩ = some (.slice a L.length cap)) (hL : Fl w Q 1 8 iC a L) :
  SeqY n 73 #[.pointer (some ⟨Bg, 0, none⟩)] (fun i : Int => #[.int .i64 i]) Q L w := fun l f fx O W hW hf hfx hO hQO hY h0 => by
 have hc' := (World.cell?_of_block (hW.block _ hB)).trans hc
 have hlen : L.length ≤ 140737488355328 := by have := hL.bd; omega
 refine callsIn_of_wp Try.func73 rfl trivial ?_ rfl
 simp only [Try.ntmps73, List.size_toArray, List.length_cons, List.length_nil, Nat.reduceAdd, Nat.reduceSub, Array.replicate_succ, Array.replicate_zero, List.push_toArray, List.append_toArray, List.nil_append, List.cons_append]
 gi_wp2
 gi_loopw [7] (fun i wr => ∃ (k : Nat) (O1 : Nat → Prop), k ≤ L.length ∧ i = .int .i64 k ∧ f O1 (L.take k) wr ∧ Frm O O1 W wr) (fun i _ => L.length - (intOf i).toNat)
 case atStart => exact ⟨0, O, Nat.zero_le _, rfl, h0, Frm.refl hO⟩
 case round =>
  obtain ⟨k, O1, hk, rfl, hf1, hF1⟩ := hrel
  have hsz := hF1.size
  have hKr : ∀ b, Q b → wr.heap[b]? = w.heap[b]? := fun b hb => (hF1.same b (Nat.lt_of_lt_of_le (hQ b hb) hW.size) (hQO b hb)).trans (hW.block b hb)
  by_cases hlt : k < L.length
  ·obtain ⟨b, off, ha, hQb, hcc⟩ := hL.at k hlt
   subst ha
   have hbl : b < wr.heap.size := Nat.lt_of_lt_of_le (Nat.lt_of_lt_of_le (hQ b hQb) hW.size) hsz
   have c0 : wr.cell? ⟨b, off + k, none⟩ = some (.int .i64 L[k]) := (World.cell?_of_block (hKr b hQb)).trans (by have := hcc 0 _ rfl; simpa using this)
   have hpre : (L.take k) ++ [L[k]] <+: L := (by rw [← take_snoc L k hlt]; exact List.take_prefix _ _)
   obtain ⟨fn, tmps, assign, body, hy, hR⟩ := hY O1 _ L[k] wr hf1 hF1.lt hF1 hpre
   try dsimp only at hy
   have HF := hidOf hF1
   have HP := hidOf hpre
   clear hY hF1 hf1 hpre
   gi_wp2
   refine ⟨fun h => (by cases h), hR.mono ?_⟩
   rintro e W3 ⟨O3, hF3, (⟨rfl, hf3⟩ | ⟨rfl, hx3⟩)⟩
   ·gi_wp2
    go_roundw
    case rel => exact ⟨k + 1, O3, by omega, by simp, by rw [take_snoc L k hlt]; exact hf3, HF.out.trans hF3⟩
    case measure => simp [intOf]; omega
   ·gi_wp2
    refine bodyPost_ret (results_none rfl _ _ _) rfl ?_
    exact ⟨⟨_, rfl⟩, O3, HF.out.trans hF3, .inr ⟨_, HP.out, hx3⟩⟩
  ·skip
   have hkl : k = L.length := by omega
   subst hkl
   gi_wp2
   go_end0
   exact ⟨⟨_, rfl⟩, O1, hF1, .inl (by simpa using hf1)⟩
end Go.Proofs.Ytblofbdncolikaa
