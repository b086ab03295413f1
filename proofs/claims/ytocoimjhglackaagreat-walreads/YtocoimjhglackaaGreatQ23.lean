/- Wfc, Wfd -/
import Derived.Test.YtocoimjhglackaaGreatQ22
set_option maxHeartbeats 8000000
set_option maxRecDepth 100000
namespace Go.Proofs.YtocoimjhglackaaGreat
section
open Go.RowKit Go.Maps
theorem zJ9 {w : World} {S : Nat -> Prop} {cs : List Value} {v : Sn} (h : Rep w S zA2 cs v) : ∃ av cv al cl ad cd, cs = [.int .i64 v.1, .int .i64 v.2.1, .slice av v.2.2.1.1.length cv, .slice al v.2.2.1.2.length cl, .slice ad v.2.2.2.length cd] /\ RepL w S .num av v.2.2.1.1 /\ RepL w S .num al v.2.2.1.2 /\ v.2.2.2.length <= cd /\ RepB w S ad v.2.2.2 := by
 obtain ⟨x1, y1, rfl, h1, h2⟩ := h
 obtain ⟨x2, y2, rfl, h2, h3⟩ := h2
 obtain ⟨x3, y3, rfl, h3, h4⟩ := h3
 obtain ⟨x4, y4, rfl, h5, h6⟩ := h3
 obtain ⟨ad, cd, rfl, h7, h8, h9⟩ := h4
 obtain ⟨av, cv, rfl, h10, h11⟩ := h5
 obtain ⟨al, cl, rfl, h12, h13⟩ := h6
 rw [show x1 = _ from h1, show x2 = _ from h2]
 exact ⟨av, cv, al, cl, ad, cd, rfl, ⟨h10, h11⟩, ⟨h12, h13⟩, h7, h8, h9⟩
theorem xD0 {f : Fm} {vs : List (Vl f)} (h : (en (.lst f) vs).2 = false) : vs.length <= 64 := by
 by_cases g : vs.length <= 64
 · exact g
 · exfalso
   have : en (.lst f) vs = ([], true) := by show (if _ then _ else _) = _; rw [if_neg g]
   rw [this] at h; cases h
theorem xW0 {l : List UInt8} (h : (en .byt l).2 = false) : l.length <= 65536 := by
 by_cases g : l.length <= 65536
 · exact g
 · exfalso
   have : en .byt l = ([], true) := by show (if _ then _ else _) = _; rw [if_neg g]
   rw [this] at h; cases h
theorem zR8 {a b : Fm} {v : Vl (.cat a b)} (h : (en (.cat a b) v).2 = false) : (en a v.1).2 = false /\ (en b v.2).2 = false := by
 have h' : ((en a v.1).2 || (en b v.2).2) = false := h
 exact Bool.or_eq_false_iff.1 h'
theorem xA6 {v : Sn} (h : (en zA2 v).2 = false) : v.2.2.1.1.length <= 64 /\ v.2.2.1.2.length <= 64 /\ v.2.2.2.length <= 65536 := by
 have h1 := zR8 (zR8 (zR8 h).2).2
 have h2 := zR8 (a := .lst .num) (b := .lst .num) h1.1
 exact ⟨xD0 h2.1, xD0 h2.2, xW0 h1.2⟩
theorem xK5 {b : List UInt8} : okH b ↔ okS (b ++ z3) /\ okN (dS (b ++ z3)).1 /\ okN (dS (b ++ z3)).2.1 /\ (dS (b ++ z3)).2.2.1.1.length + (dS (b ++ z3)).2.2.1.2.length + (dS (b ++ z3)).2.2.2.length = 0 := by
 constructor
 · intro h
   have e := yT1 h
   have en1 := yG4 h.2.1 h.2.2
   obtain ⟨h1, h2⟩ := xO3 (x := ((dH b).1, (dH b).2, ([], []), [])) (by rw [en1])
   rw [en1] at h1 h2
   simp only [<- e] at h1 h2
   refine ⟨h1, ?_⟩
   rw [h2]
   exact ⟨h.2.1, h.2.2, rfl⟩
 · rintro ⟨h1, h2, h3, h4⟩
   obtain ⟨g1, g2⟩ := yJ2 h1
   generalize hv : dS (b ++ z3) = v at *
   obtain ⟨i, t, ⟨vs, ls⟩, d⟩ := v
   simp only at h2 h3 h4
   obtain rfl : vs = [] := List.length_eq_zero_iff.1 (by omega)
   obtain rfl : ls = [] := List.length_eq_zero_iff.1 (by omega)
   obtain rfl : d = [] := List.length_eq_zero_iff.1 (by omega)
   rw [yG4 h2 h3] at g2
   have hb : b = zE4 i t := List.append_cancel_right g2
   rw [hb]
   exact (yE9 h2 h3).1
theorem xK4 {b : List UInt8} (h : okH b) : dS (b ++ z3) = ((dH b).1, (dH b).2, ([], []), []) := by
 have e := yT1 h
 have en1 := yG4 h.2.1 h.2.2
 obtain ⟨h1, h2⟩ := xO3 (x := ((dH b).1, (dH b).2, ([], []), [])) (by rw [en1])
 rw [en1] at h2
 simp only [<- e] at h2
 exact h2
theorem xN9 : (Tryz.prog.info? 31).map (·.size) = some 2 := by kernel_rfl
theorem set2 {w : World} {g : Nat} {a b : Value} {t : TypeId} (h : w.heap[g]? = some (.cells #[a, b] t (0, 0))) (x y : Value) : ((w.setCell ⟨g, 0, none⟩ x).setCell ⟨g, 1, none⟩ y).heap[g]? = some (.cells #[x, y] t (0, 0)) := by
 have h1 := heap_setCell_same w g 0 _ t x h
 have h2 := heap_setCell_same _ g 1 _ t y h1
 rw [h2]; rfl
theorem zH2 (w : World) (g : Nat) (x y : Value) : Below g w ((w.setCell ⟨g, 0, none⟩ x).setCell ⟨g, 1, none⟩ y) := ((Below.refl g w).setCell (p := ⟨g, 0, none⟩) (Nat.le_refl _) x).trans ((Below.refl g _).setCell (p := ⟨g, 1, none⟩) (Nat.le_refl _) y)
theorem xI2 (tmps : Array Value) (W : World) (g : Nat) (x y : Int) (bl : Bool) (h2 : tmps[2]?.getD undef = .pointer (some ⟨g, 0, none⟩)) (h3 : tmps[3]?.getD undef = .bool bl) (hg : W.heap[g]? = some (.cells #[.int .i64 x, .int .i64 y] 31 (0, 0))) : (results Tryz.f97 tmps).run Tryz.prog W = .ok (.tuple #[.agg #[.int .i64 x, .int .i64 y], .bool bl]) W := by
 have hl := run_loadVar_row (P := Tryz.prog) W g 31 31 #[.int .i64 x, .int .i64 y] (0, 0) _ hg Tryz.underlying31 rfl xN9
 simp [results, Tryz.results97, asAddr, h2, h3, hl]
theorem xT7 {w3 w4 : World} {g : Nat} {x y A B : Value} {cs : Array Value} (hg : w3.heap[g]? = some (.cells #[x, y] 31 (0, 0))) (hb : Below ((w3.alloc (.cells cs 36)).alloc (.cells #[A, B] 31)).heap.size ((w3.alloc (.cells cs 36)).alloc (.cells #[A, B] 31)) w4) :
    w4.heap[w3.heap.size]? = some (.cells cs 36 (0, 0)) /\ w4.heap[w3.heap.size + 1]? = some (.cells #[A, B] 31 (0, 0)) /\ w4.heap[g]? = some (.cells #[x, y] 31 (0, 0)) := by
 have hl := zA4 hg
 refine ⟨(hb.block _ (by simp; omega)).trans ((Below.heap_alloc _ _ _ (by simp)).trans (heap_alloc_new w3 _)), (hb.block _ (by simp)).trans ?_, (hb.block _ (by simp; omega)).trans ((Below.heap_alloc _ _ _ (by simp; omega)).trans ((Below.heap_alloc _ _ _ hl).trans hg))⟩
 have := heap_alloc_new (w3.alloc (.cells cs 36)) (.cells #[A, B] 31)
 rwa [World.size_alloc] at this
def hv1 (b : List UInt8) : Int := if okH b then (dH b).1 else 0
def hv2 (b : List UInt8) : Int := if okH b then (dH b).2 else 0
def GhP (w : World) (b : List UInt8) (e : Ending) (w' : World) : Prop := e = .returned (.tuple #[.agg #[.int .i64 (hv1 b), .int .i64 (hv2 b)], .bool (decide (okH b))]) /\ Below w.heap.size w w'
theorem yQ6 {w : World} {l : List UInt8} (h : Bs w none l) : l = [] := by
 refine Classical.byContradiction fun hn => ?_
 obtain ⟨b, off, e, _⟩ := h.2 hn
 cases e
theorem yE2 {P : Program} {i : TypeInfo} (ty : TypeId) (hk : P.underlying 22 = some (.slice 5)) (hk9 : P.underlying 9 = some .string) (hi : P.info? 5 = some i) (hz : i.zero = some (.int .u8 0)) (hs1 : i.size = 1) (hb1 : i.bytes = 1)
    (w : World) (v : Value) (l : List UInt8) (hown : SlR w v l) (x : Value) (news : List UInt8) (hs : Src P 1 9 x news.length (vals news) w) (hlen : l.length + news.length <= 211106232532992) :
    ∃ v' w', (Builtin.append_ #[22, 9] ty #[v, x]).run P w = .ok v' w' /\ SlR w' v' (l ++ news) /\ App w w' none v v' := by
 by_cases hn : news = []
 · subst hn
   have hs' : Src P i.size 9 x 0 [] w := by rw [hs1]; exact hs
   have hc := hs'.cells
   have hlen0 := hs'.len
   rcases hown with ⟨rfl, rfl⟩ | ⟨g, cap, cur, rfl, hg, h1, h2, h3, h4⟩
   · exact ⟨.slice none 0 0, w, by simp [Builtin.append_, run_underlying hk, run_underlying hk9, sizeOf, typeInfo, hi, hlen0, hc], .inl ⟨rfl, rfl⟩, App.refl _ _ _⟩
   · have hst := run_storeCells_at P g (l.length * i.size) 5 [] 0 cur w hg (by rw [hs1]; simp; omega) (by simp)
     simp only [Nat.add_zero] at hst
     have ew : (cur.toList.take (l.length * i.size) ++ [] ++ cur.toList.drop (l.length * i.size + ([] : List Value).length)).toArray = cur := by simp
     rw [ew] at hst
     have hr : (Builtin.append_ #[22, 9] ty #[.slice (some ⟨g, 0, none⟩) l.length cap, x]).run P w = .ok (.slice (some ⟨g, 0, none⟩) l.length cap) (w.setRow g cur) := by
      simp [Builtin.append_, run_underlying hk, run_underlying hk9, sizeOf, typeInfo, hi, hlen0, h1, hc, Addr.add_lit, hst]
     have hb : ∀ k, (w.setRow g cur).heap[k]? = w.heap[k]? := fun k => by
      by_cases e : k = g
      · subst e; rw [setRow_heap w k cur _ 5 _ hg, hg]
      · exact setRow_other w g k _ e
     refine ⟨_, _, hr, .inr ⟨g, cap, cur, by simp, (hb g).trans hg, by simpa using h1, h2, h3, by simpa using h4⟩, ⟨rfl, rfl, rfl, by simp, fun k _ _ _ => hb k, fun _ g' cur' e1 e2 => ⟨cur', (hb g').trans e2, rfl, rfl⟩, .inl ⟨rfl, rfl, Nat.le_refl _⟩⟩⟩
 · have hp : 0 < news.length := List.length_pos_iff.2 hn
   have hs' : Src P i.size 9 x news.length (vals news) w := by rw [hs1]; exact hs
   have grown : ∀ (base : Option Addr) (cap : Nat), l.length <= cap -> cap < l.length + news.length -> (Builtin.firstCells i.size l.length (.slice base l.length cap)).run P w.drew = .ok (vals l).toArray w.drew ->
       ∃ v' w', (Builtin.append_ #[22, 9] ty #[.slice base l.length cap, x]).run P w = .ok v' w' /\ SlR w' v' (l ++ news) /\ App w w' none (.slice base l.length cap) v' := by
    intro base cap hc1 hc2 hold
    have hr := run_append_grow_src w 22 9 ty 5 i (.int .u8 0) hk hi hz base l.length cap (vals l) hold x news.length (vals news) hs' hc2 (by omega) (by rw [hb1, Nat.mul_one]; exact xE0 (by omega) (by omega))
    have hge := grownCap_ge w (l.length + news.length) cap 5
    have hm : grownCap w (l.length + news.length) cap 5 <= maxLen := grownCap_le_maxLen w _ cap 5 (by unfold maxLen; omega)
    refine ⟨_, _, hr, SlR.own (.inr ⟨w.heap.size, _, _, by rw [List.length_append], heap_alloc_new w.drew _, by rw [List.length_append]; exact hge, hm, ?_, ?_⟩), ⟨rfl, rfl, rfl, by simp, fun k hk _ _ => Below.heap_alloc w.drew _ k hk, fun _ g cur _ h2 => ⟨cur, (Below.heap_alloc w.drew _ g (Array.getElem?_eq_some_iff.1 h2).1).trans h2, rfl, rfl⟩, .inr ⟨w.heap.size, rfl, Nat.le_refl _⟩⟩⟩
    · simp only [Array.size_append, List.size_toArray, size_zeroCells, List.length_append, zC5]
      simp [Value.cells]
      omega
    · rw [zH1]
      simp only [Array.toList_append]
      have : (l ++ news).length = (vals l ++ vals news).length := by simp [zC5]
      rw [this]
      exact List.take_left
   rcases hown with ⟨rfl, rfl⟩ | ⟨g, cap, cur, rfl, hg, h1, h2, h3, h4⟩
   · exact grown none 0 (Nat.le_refl _) (by simpa using hp) (by exact run_firstCells_none w.drew i.size 0 0 0)
   · by_cases hroom : l.length + news.length <= cap
     · have hst := run_storeCells_at P g (l.length * i.size) 5 (vals news) 0 cur w hg (by rw [hs1, zC5]; omega) (zN5 news)
       simp only [Nat.add_zero] at hst
       have hr : (Builtin.append_ #[22, 9] ty #[.slice (some ⟨g, 0, none⟩) l.length cap, x]).run P w = .ok (.slice (some ⟨g, 0, none⟩) (l.length + news.length) cap)
           (w.setRow g (cur.toList.take (l.length * i.size) ++ vals news ++ cur.toList.drop (l.length * i.size + (vals news).length)).toArray) := by
        simp [Builtin.append_, run_underlying hk, run_underlying hk9, sizeOf, typeInfo, hi, hs'.len, hroom, hs'.cells, Addr.add_lit, hst]
       have hsz : (cur.toList.take (l.length * i.size) ++ vals news ++ cur.toList.drop (l.length * i.size + (vals news).length)).toArray.size = cur.size := by
        simp only [List.size_toArray, List.length_append, List.length_take, List.length_drop, Array.length_toList, zC5, hs1]
        omega
       have htk : (cur.toList.take (l.length * i.size) ++ vals news ++ cur.toList.drop (l.length * i.size + (vals news).length)).take l.length = cur.toList.take l.length := by
        rw [hs1, Nat.mul_one, List.append_assoc]
        have : (cur.toList.take l.length).length = l.length := by simp; omega
        exact List.take_left' this
       have hgr : Gr (.slice (some ⟨g, 0, none⟩) l.length cap) := by show l.length < cap; omega
       refine ⟨_, _, hr, .inr ⟨g, cap, _, by rw [List.length_append], setRow_heap w g cur _ 5 _ hg, by rw [List.length_append]; exact hroom, by rw [hsz]; exact h2, by rw [hsz]; exact h3, ?_⟩, ⟨rfl, rfl, rfl, by simp, fun k _ _ hk => setRow_other w g k _ (fun e => hk hgr (by simp [Value.ownBlock, e])), fun _ g' cur' e1 e2 => ?_, .inl ⟨rfl, rfl, by show l.length <= l.length + news.length; omega⟩⟩⟩
       · rw [hs1, Nat.mul_one, h4, zH1]
         have : (l ++ news).length = (vals l ++ vals news).length := by simp [zC5]
         rw [this]
         exact List.take_left
       · have e3 : g = g' := by simpa [Value.ownBlock] using e1
         subst e3
         rw [hg] at e2
         cases e2
         exact ⟨_, setRow_heap w g cur _ 5 _ hg, hsz, htk⟩
     · have hold : ∀ j u, (vals l)[j]? = some u -> w.drew.cell? ((⟨g, 0, none⟩ : Addr).add j) = some u := by
         intro j u hu
         obtain ⟨hj, rfl⟩ := zQ1 l j u hu
         have hadd : (⟨g, 0, none⟩ : Addr).add j = ⟨g, j, none⟩ := by unfold Addr.add; split <;> simp_all
         rw [hadd, cell_of_row w.drew g j cur 5 (0, 0) hg]
         have := zN6 l j hj
         rw [<- h4, List.getElem?_take, if_pos hj] at this
         simpa using this
       exact grown (some ⟨g, 0, none⟩) cap h1 (by omega) (run_firstCells_some w.drew i.size l.length _ _ _ (vals l) (by rw [hs1, zC5]; omega) hold)
theorem xX7 (w : World) : Src Tryz.prog 1 9 (.string ⟨#[0, 0, 0]⟩) z3.length (vals z3) w := Src.ofString (P := Tryz.prog) w Tryz.underlying9 ⟨#[0, 0, 0]⟩
theorem zV3 {ops : Array Oper} {rest : List Oper} {o : Oper} {a : Act} {Q : Exit -> Act -> World -> Prop} (w : World) (hgd : o.guard = none) (s x : Operand)
    (ho : o.op = .call { callee := .builtin .append, args := #[s, x], argTypes := #[22, 9] })
    (v : Value) (l : List UInt8) (hs : a.eval s = v) (hown : SlR w v l) (xv : Value) (news : List UInt8) (hx : a.eval x = xv) (hsrc : Src Tryz.prog 1 9 xv news.length (vals news) w) (hlen : l.length + news.length <= 211106232532992)
    (h : ∀ v' w', SlR w' v' (l ++ news) -> App w w' none v v' -> wpList Tryz.prog ops Q rest (a.put o.dst v') w') : wpList Tryz.prog ops Q (o :: rest) a w := by
 refine wpList_plain hgd fun K hK => ?_
 obtain ⟨i, hi, hz0, hz1, hz2⟩ := info_parts Tryz.info5
 obtain ⟨v', w', hr, h2, h3⟩ := yE2 (P := Tryz.prog) o.type Tryz.underlying22 Tryz.underlying9 hi hz0 hz1 hz2 w v l hown xv news hsrc hlen
 unfold Oper.wp execOp
 simp only [ho, resolve, invoke, builtin, Sem.run_bind, Sem.run_pure, Result.andThen_ok, List.map_toArray, List.map_cons, List.map_nil, hs, hx, hr]
 exact hK _ _ (h v' w' h2 h3)
theorem App.bel {w w' : World} {v v' : Value} {B : Nat} (h : App w w' none v v') (hB : B <= w.heap.size) (hv : ∀ k, v.ownBlock = some k -> B <= k) : Below B w w' :=
 ⟨h.os, h.tape, h.output, h.size, fun k hk => h.block k (by omega) (by simp) (fun _ e => by have := hv k e.symm; omega)⟩
theorem yP7 (a : Option Addr) (n cap : Nat) (b : List UInt8) (w : World) (hn : n = b.length) (hb : Bs w a b) (hl : b.length <= 1048576) : Calls Tryz.prog 97 #[.slice a n cap] w (GhP w b) := by
 subst hn
 have HBC := zA0 (zO4 a cap b (w.alloc (.cells #[.int .i64 0, .int .i64 0] 31)) (hb.grow (zB7 w _)) (fun e => by subst e; exact yQ6 hb))
 have HL := zA0 hl
 have HI := zA0 (@xK5 b)
 clear hb hl
 go_enter Tryz.func97, Tryz.ntmps97
 go_wp2_with (first
  | (go_at_call 29; refine HBC.out.mono ?_; rintro e w1 ⟨z, rfl, hz, hf, hb1⟩; have HZ := zA0 hz; have HF := zA0 hf; have HB1 := zA0 hb1; clear hz hf hb1 HBC)
  | (at_builtin; refine zV3 _ rfl (.tmp 9) _ rfl z b rfl HZ.out _ z3 rfl (xX7 _) (by have := HL.out; simp [z3]; omega) ?next))
 case next =>
  intro v1 w2 hs2 ha2
  have hB2 : Below w.heap.size w1 w2 := ha2.bel (by have := HB1.out.size; simp at this; omega) (fun k hk => by have := HF.out k hk; simp at this; omega)
  have hw1 : w.heap.size <= w1.heap.size := by have := HB1.out.size; simp at this; omega
  have hB02 : Below w.heap.size w w2 := ((zB7 w _).trans (HB1.out.mono (by simp))).trans hB2
  obtain ⟨a1, c1, rfl, k1, k2⟩ := hs2.bs (by have := HL.out; simp [z3]; omega)
  have k3 := hs2.blk
  have hg0 : w2.heap[w.heap.size]? = some (.cells #[.int .i64 0, .int .i64 0] 31 (0, 0)) := by
   have e1 : w2.heap[w.heap.size]? = w1.heap[w.heap.size]? := ha2.block _ (by have := HB1.out.size; simp at this; omega) (by simp) (fun _ e => by have := HF.out _ e.symm; simp at this; omega)
   rw [e1, HB1.out.block _ (by simp)]
   exact heap_alloc_new w _
  obtain ⟨n2, hn2⟩ : ∃ n2, n2 = (b ++ z3).length := ⟨_, rfl⟩
  rw [<- hn2] at k1 ⊢
  have HGS := zA0 (zL3 a1 n2 c1 (b ++ z3) w2 hn2 k1 k2 k3)
  clear hn2
  have HB02 := zA0 hB02
  have HG0 := zA0 hg0
  clear hs2 ha2 hB2 hw1 hB02 k1 k2 k3 hg0 HB1 HF HZ
  go_wp2_with fail
  refine HGS.out.mono ?_
  rintro e w3 ⟨cs, v, rfl, hrep, hval, hb3⟩
  obtain ⟨av, cv, al, cl, ad, cd, rfl, _, _, _, _⟩ := zJ9 hrep
  have hg3 : w3.heap[w.heap.size]? = some (.cells #[.int .i64 0, .int .i64 0] 31 (0, 0)) := (hb3.block _ (zA4 HG0.out)).trans HG0.out
  have HB3 := zA0 (HB02.out.trans (hb3.mono HB02.out.size))
  have f0 : ∀ o, w3.frozen? ⟨w.heap.size, o, none⟩ = false := fun o => by simp [World.frozen?, hg3]
  have c0 : w3.cell? ⟨w.heap.size, 0, none⟩ = some (.int .i64 0) := by rw [cell_of_row _ _ _ _ 31 (0, 0) hg3]; rfl
  have c1' : w3.cell? ⟨w.heap.size, 1, none⟩ = some (.int .i64 0) := by rw [cell_of_row _ _ _ _ 31 (0, 0) hg3]; rfl
  have l3 := zA4 hg3
  by_cases ok : okS (b ++ z3)
  · have hv := hval ok
    have hln := xA6 (yJ2 ok).1
    have hdd : v = dS (b ++ z3) := hv
    rw [<- hdd] at hln
    have hiff := HI.out
    rw [<- hdd] at hiff
    obtain ⟨i, q, ⟨vs, ls⟩, d⟩ := v
    simp only at hln hiff
    have HV : Hid (okH b -> i = (dH b).1 /\ q = (dH b).2) := zA0 (fun h => by have e := xK4 h; rw [<- hdd] at e; cases e; exact ⟨rfl, rfl⟩)
    obtain ⟨m1, m2, m3⟩ := hln
    rw [decide_eq_true ok]
    have HG3 := zA0 hg3
    clear hrep hval hg3 HG0 HGS hb3 hv
    by_cases hN : okN i /\ okN q
    · by_cases hz : vs.length + ls.length + d.length = 0
      · have hyes : okH b := hiff.2 ⟨ok, hN.1, hN.2, hz⟩
        have HE1 : Hid (hv1 b = i) := zA0 (by unfold hv1; rw [if_pos hyes]; exact (HV.out hyes).1.symm)
        have HE2 : Hid (hv2 b = q) := zA0 (by unfold hv2; rw [if_pos hyes]; exact (HV.out hyes).2.symm)
        have HE3 : Hid (decide (okH b) = true) := zA0 (decide_eq_true hyes)
        have HN := zA0 hN
        have z1 : vs.length = 0 := by omega
        have z2 : ls.length = 0 := by omega
        have z3' : d.length = 0 := by omega
        rw [z1, z2, z3']
        clear hyes hN ok hdd hiff HV hz z1 z2 z3' m1 m2 m3
        go_wp2_with fail
        refine (zK1 i q _).mono ?_
        rintro e w4 ⟨rfl, hb4⟩
        rw [decide_eq_true HN.out]
        obtain ⟨gA, gB, gC⟩ := xT7 HG3.out hb4
        have HGC := zA0 gC
        have HB4 := zA0 hb4
        have HGB := zA0 gB
        have f4 : ∀ o, w4.frozen? ⟨w.heap.size, o, none⟩ = false := fun o => by simp [World.frozen?, gC]
        have e0 : w4.cell? ⟨w.heap.size, 0, none⟩ = some (.int .i64 0) := by rw [cell_of_row _ _ _ _ 31 (0, 0) gC]; rfl
        have e1 : w4.cell? ⟨w.heap.size, 1, none⟩ = some (.int .i64 0) := by rw [cell_of_row _ _ _ _ 31 (0, 0) gC]; rfl
        have l4 := zA4 gC
        have b0 : w4.cell? ⟨w3.heap.size + 1, 0, none⟩ = some (.int .i64 i) := by rw [cell_of_row _ _ _ _ 31 (0, 0) gB]; rfl
        have b1 : w4.cell? ⟨w3.heap.size + 1, 1, none⟩ = some (.int .i64 q) := by rw [cell_of_row _ _ _ _ 31 (0, 0) gB]; rfl
        have a2 : w4.cell? ⟨w3.heap.size, 2, none⟩ = some (.slice av 0 cv) := by rw [cell_of_row _ _ _ _ 36 (0, 0) gA]; rfl
        have a3 : w4.cell? ⟨w3.heap.size, 3, none⟩ = some (.slice al 0 cl) := by rw [cell_of_row _ _ _ _ 36 (0, 0) gA]; rfl
        have a4 : w4.cell? ⟨w3.heap.size, 4, none⟩ = some (.slice ad 0 cd) := by rw [cell_of_row _ _ _ _ 36 (0, 0) gA]; rfl
        clear gA gB gC hb4 f0 c0 c1' l3
        go_wp2
        refine bodyPost_ret (v := .tuple #[.agg #[.int .i64 i, .int .i64 q], .bool true]) ?_ rfl ⟨by rw [HE1.out, HE2.out, HE3.out], ?_⟩
        · exact xI2 _ _ w.heap.size _ _ true rfl rfl (set2 HGC.out _ _)
        · exact (((HB3.out.alloc HB3.out.size _).alloc (by simp; have := HB3.out.size; omega) _).trans (HB4.out.mono (by simp; have := HB3.out.size; omega))).trans (zH2 _ _ _ _)
      · have hno : ¬ okH b := fun h => hz (hiff.1 h).2.2.2
        have HE1 : Hid (hv1 b = 0) := zA0 (by unfold hv1; rw [if_neg hno])
        have HE2 : Hid (hv2 b = 0) := zA0 (by unfold hv2; rw [if_neg hno])
        have HE3 : Hid (decide (okH b) = false) := zA0 (decide_eq_false hno)
        have HN := zA0 hN
        clear hno hN ok hdd hiff HV
        generalize vs.length = nv at *
        generalize ls.length = nl at *
        generalize d.length = nd at *
        have zz : (0 : Int) < (nv : Int) + (nl : Int) + (nd : Int) := by omega
        clear hz
        go_wp2_with fail
        refine (zK1 i q _).mono ?_
        rintro e w4 ⟨rfl, hb4⟩
        rw [decide_eq_true HN.out]
        obtain ⟨gA, gB, gC⟩ := xT7 HG3.out hb4
        have HGC := zA0 gC
        have HB4 := zA0 hb4
        have HGB := zA0 gB
        have f4 : ∀ o, w4.frozen? ⟨w.heap.size, o, none⟩ = false := fun o => by simp [World.frozen?, gC]
        have e0 : w4.cell? ⟨w.heap.size, 0, none⟩ = some (.int .i64 0) := by rw [cell_of_row _ _ _ _ 31 (0, 0) gC]; rfl
        have e1 : w4.cell? ⟨w.heap.size, 1, none⟩ = some (.int .i64 0) := by rw [cell_of_row _ _ _ _ 31 (0, 0) gC]; rfl
        have l4 := zA4 gC
        have b0 : w4.cell? ⟨w3.heap.size + 1, 0, none⟩ = some (.int .i64 i) := by rw [cell_of_row _ _ _ _ 31 (0, 0) gB]; rfl
        have b1 : w4.cell? ⟨w3.heap.size + 1, 1, none⟩ = some (.int .i64 q) := by rw [cell_of_row _ _ _ _ 31 (0, 0) gB]; rfl
        have a2 : w4.cell? ⟨w3.heap.size, 2, none⟩ = some (.slice av nv cv) := by rw [cell_of_row _ _ _ _ 36 (0, 0) gA]; rfl
        have a3 : w4.cell? ⟨w3.heap.size, 3, none⟩ = some (.slice al nl cl) := by rw [cell_of_row _ _ _ _ 36 (0, 0) gA]; rfl
        have a4 : w4.cell? ⟨w3.heap.size, 4, none⟩ = some (.slice ad nd cd) := by rw [cell_of_row _ _ _ _ 36 (0, 0) gA]; rfl
        clear gA gB gC hb4 f0 c0 c1' l3
        go_wp2
        refine bodyPost_ret (v := .tuple #[.agg #[.int .i64 0, .int .i64 0], .bool false]) ?_ rfl ⟨by rw [HE1.out, HE2.out, HE3.out], ?_⟩
        · exact xI2 _ _ w.heap.size _ _ false rfl rfl (set2 HGC.out _ _)
        · exact (((HB3.out.alloc HB3.out.size _).alloc (by simp; have := HB3.out.size; omega) _).trans (HB4.out.mono (by simp; have := HB3.out.size; omega))).trans (zH2 _ _ _ _)
    · have hno : ¬ okH b := fun h => hN ⟨(hiff.1 h).2.1, (hiff.1 h).2.2.1⟩
      have HE1 : Hid (hv1 b = 0) := zA0 (by unfold hv1; rw [if_neg hno])
      have HE2 : Hid (hv2 b = 0) := zA0 (by unfold hv2; rw [if_neg hno])
      have HE3 : Hid (decide (okH b) = false) := zA0 (decide_eq_false hno)
      have HN := zA0 hN
      clear hno hN ok hdd hiff HV
      generalize vs.length = nv at *
      generalize ls.length = nl at *
      generalize d.length = nd at *
      go_wp2_with fail
      refine (zK1 i q _).mono ?_
      rintro e w4 ⟨rfl, hb4⟩
      rw [decide_eq_false HN.out]
      obtain ⟨gA, gB, gC⟩ := xT7 HG3.out hb4
      have HGC := zA0 gC
      have HB4 := zA0 hb4
      have HGB := zA0 gB
      have f4 : ∀ o, w4.frozen? ⟨w.heap.size, o, none⟩ = false := fun o => by simp [World.frozen?, gC]
      have e0 : w4.cell? ⟨w.heap.size, 0, none⟩ = some (.int .i64 0) := by rw [cell_of_row _ _ _ _ 31 (0, 0) gC]; rfl
      have e1 : w4.cell? ⟨w.heap.size, 1, none⟩ = some (.int .i64 0) := by rw [cell_of_row _ _ _ _ 31 (0, 0) gC]; rfl
      have l4 := zA4 gC
      have b0 : w4.cell? ⟨w3.heap.size + 1, 0, none⟩ = some (.int .i64 i) := by rw [cell_of_row _ _ _ _ 31 (0, 0) gB]; rfl
      have b1 : w4.cell? ⟨w3.heap.size + 1, 1, none⟩ = some (.int .i64 q) := by rw [cell_of_row _ _ _ _ 31 (0, 0) gB]; rfl
      have a2 : w4.cell? ⟨w3.heap.size, 2, none⟩ = some (.slice av nv cv) := by rw [cell_of_row _ _ _ _ 36 (0, 0) gA]; rfl
      have a3 : w4.cell? ⟨w3.heap.size, 3, none⟩ = some (.slice al nl cl) := by rw [cell_of_row _ _ _ _ 36 (0, 0) gA]; rfl
      have a4 : w4.cell? ⟨w3.heap.size, 4, none⟩ = some (.slice ad nd cd) := by rw [cell_of_row _ _ _ _ 36 (0, 0) gA]; rfl
      clear gA gB gC hb4 f0 c0 c1' l3
      go_wp2
      refine bodyPost_ret (v := .tuple #[.agg #[.int .i64 0, .int .i64 0], .bool false]) ?_ rfl ⟨by rw [HE1.out, HE2.out, HE3.out], ?_⟩
      · exact xI2 _ _ w.heap.size _ _ false rfl rfl (set2 HGC.out _ _)
      · exact (((HB3.out.alloc HB3.out.size _).alloc (by simp; have := HB3.out.size; omega) _).trans (HB4.out.mono (by simp; have := HB3.out.size; omega))).trans (zH2 _ _ _ _)
  · have hno : ¬ okH b := fun h => ok (HI.out.1 h).1
    have HE1 : Hid (hv1 b = 0) := zA0 (by unfold hv1; rw [if_neg hno])
    have HE2 : Hid (hv2 b = 0) := zA0 (by unfold hv2; rw [if_neg hno])
    have HE3 : Hid (decide (okH b) = false) := zA0 (decide_eq_false hno)
    rw [decide_eq_false ok]
    have HG3 := zA0 hg3
    clear hno ok hval hrep hg3 HG0 HGS hb3
    generalize v.2.2.1.1.length = nv at *
    generalize v.2.2.1.2.length = nl at *
    generalize v.2.2.2.length = nd at *
    generalize v.1 = vi at *
    generalize v.2.1 = vt at *
    go_wp2
    refine bodyPost_ret (v := .tuple #[.agg #[.int .i64 0, .int .i64 0], .bool false]) ?_ rfl ⟨by rw [HE1.out, HE2.out, HE3.out], ?_⟩
    · refine xI2 _ _ w.heap.size _ _ false rfl rfl ((Below.heap_alloc _ _ _ (by simp; omega)).trans ((Below.heap_alloc _ _ _ (by simpa using l3)).trans (set2 HG3.out _ _)))
    · exact ((HB3.out.trans (zH2 w3 w.heap.size _ _)).alloc (by simpa using HB3.out.size) _).alloc (by simp; have := HB3.out.size; omega) _
end
section
open Go.RowKit Go.Maps
theorem yP6 : (Tryz.prog.info? 22).map (fun i => (i.zero, i.size, i.bytes)) = some (some (.slice none 0 0), 1, 24) := by kernel_rfl
def VsR (w : World) (a : Option Addr) (xs : List Value) : Prop := xs.length <= 2199023255552 /\ (∀ u ∈ xs, u.oneCell' = true) /\ (xs ≠ [] -> ∃ b off, a = some ⟨b, off, none⟩ /\ b < w.heap.size /\ ∀ j u, xs[j]? = some u -> w.cell? ⟨b, off + j, none⟩ = some u)
theorem VsR.nil (w : World) (a : Option Addr) : VsR w a [] := ⟨by simp, fun u hu => (by cases hu), fun h => absurd rfl h⟩
theorem VsR.grow {w w' : World} {a : Option Addr} {xs : List Value} (h : VsR w a xs) (hb : Below w.heap.size w w') : VsR w' a xs := by
 refine ⟨h.1, h.2.1, fun hne => ?_⟩
 obtain ⟨b, off, e, h1, h2⟩ := h.2.2 hne
 exact ⟨b, off, e, Nat.lt_of_lt_of_le h1 hb.size, fun j u hu => (hb.cell (p := ⟨b, off + j, none⟩) h1).trans (h2 j u hu)⟩
theorem yS1 (w : World) (D : Nat) (v : Value) (l : List Value) (ty : TypeId) (ax : Option Addr) (cx : Nat) (k : List Value) (hr : w.ownsRow D 22 1 v l.length l) (hk : VsR w ax k) (hlen : l.length + k.length <= 2199023255552) (hD : D <= w.heap.size) :
    ∃ v' w', (Builtin.append_ #[92, 92] ty #[v, .slice ax k.length cx]).run Tryz.prog w = .ok v' w' /\ w'.ownsRow D 22 1 v' (l ++ k).length (l ++ k) /\ w.grownBy w' v.ownBlock /\ (v'.ownBlock = v.ownBlock \/ v'.ownBlock = some w.heap.size) := by
 obtain ⟨i0, hi, hz0, hz1, hz2⟩ := info_parts yP6
 by_cases e : k = [] /\ ax = none
 · obtain ⟨rfl, rfl⟩ := e
   refine ⟨v, w, ?_, by rw [List.append_nil]; exact hr, ⟨rfl, rfl, rfl, Nat.le_refl _, fun _ _ _ => rfl⟩, .inl rfl⟩
   rcases hr.2 with ⟨rfl, e⟩ | ⟨g, cap, cur, rfl, h3, h4, h5, h6, h7, h8⟩
   · simp [Builtin.append_, run_underlying Tryz.underlying92, sizeOf, typeInfo, hi, Builtin.lenOf, Builtin.firstCells]
   · have := run_append_room_src (P := Tryz.prog) w 92 92 ty 22 i0 Tryz.underlying92 hi g 0 l.length cap (.slice none 0 cx) 0 [] (Src.ofNil (P := Tryz.prog) w Tryz.underlying92 cx) (by omega) (fun j hj => absurd hj (by simp)) (fun j hj => absurd hj (by simp))
     simpa [World.setCells] using this
 · have hx : ∃ ad, ax = some ad := by
     cases ax with
     | some ad => exact ⟨ad, rfl⟩
     | none =>
      by_cases e2 : k = []
      · exact absurd ⟨e2, rfl⟩ e
      · obtain ⟨b, off, h, _⟩ := hk.2.2 e2; cases h
   obtain ⟨ad, rfl⟩ := hx
   obtain ⟨v', w', h1, h2, h3, h4, h5⟩ := run_append_own_at (P := Tryz.prog) w D 92 ty 22 i0 (.slice none 0 0) 1 24 Tryz.underlying92 hi hz0 hz1 hz2 rfl (by decide) v l.length l hr ad k.length cx k (by simp) (fun j u hj => by
    obtain ⟨b, off, e1, _, hc⟩ := hk.2.2 (by intro e; rw [e] at hj; simp at hj)
    cases e1
    rw [Addr.add_lit]
    exact hc j u hj) hk.2.1 (by unfold maxLen; omega) (by omega) hD
   refine ⟨v', w', h1, ?_, h3, h5⟩
   rw [List.length_append]; exact h2
theorem zP0 {ops : Array Oper} {rest : List Oper} {o : Oper} {a : Act} {Q : Exit -> Act -> World -> Prop} (w : World) (hgd : o.guard = none) (s x : Operand) (ho : o.op = .call { callee := .builtin .append, args := #[s, x], argTypes := #[92, 92] })
    (D : Nat) (v : Value) (l : List Value) (hs : a.eval s = v) (hr : w.ownsRow D 22 1 v l.length l) (ax : Option Addr) (m cx : Nat) (k : List Value) (hx : a.eval x = .slice ax m cx) (hm : m = k.length) (hk : VsR w ax k) (hlen : l.length + k.length <= 2199023255552) (hD : D <= w.heap.size)
    (h : ∀ v' w', w'.ownsRow D 22 1 v' (l ++ k).length (l ++ k) -> w.grownBy w' v.ownBlock -> (v'.ownBlock = v.ownBlock \/ v'.ownBlock = some w.heap.size) -> wpList Tryz.prog ops Q rest (a.put o.dst v') w') : wpList Tryz.prog ops Q (o :: rest) a w := by
 subst hm
 refine wpList_plain hgd fun K hK => ?_
 obtain ⟨v', w', hr1, h2, h3, h5⟩ := yS1 w D v l o.type ax cx k hr hk hlen hD
 unfold Oper.wp execOp
 simp only [ho, resolve, invoke, builtin, Sem.run_bind, Sem.run_pure, Result.andThen_ok, List.map_toArray, List.map_cons, List.map_nil, hs, hx, hr1]
 exact hK _ _ (h v' w' h2 h3 h5)
theorem xM6 (w : World) (x : Value) (h : x.oneCell' = true) : VsR (w.alloc (.cells #[x] 22)) (some ⟨w.heap.size, 0, none⟩) [x] := by
 refine ⟨by simp, fun u hu => by rw [List.mem_singleton.1 hu]; exact h, fun _ => ⟨w.heap.size, 0, rfl, by simp, fun j u hj => ?_⟩⟩
 have h0 := (List.getElem?_eq_some_iff.1 hj).1
 have : j = 0 := by simpa using h0
 subst this
 rw [cell_of_row _ w.heap.size 0 _ 22 (0, 0) (heap_alloc_new w _)]
 simpa using hj
theorem zD8 {w : World} {D e s n : Nat} {v : Value} {l : List Value} (h : w.ownsRow D e s v n l) {k : Nat} (hk : v.ownBlock = some k) : D <= k /\ k < w.heap.size /\ ∃ cur, w.heap[k]? = some (.cells cur e (0, 0)) := by
 rcases h.2 with ⟨rfl, _⟩ | ⟨g, cap, cur, rfl, h3, h4, h5⟩
 · cases hk
 · cases hk; exact ⟨h3, zA4 h4, cur, h4⟩
theorem zQ9 {w w' : World} {D e s n : Nat} {v : Value} {l : List Value} (h : w.ownsRow D e s v n l) (hg : w.grownBy w' v.ownBlock) (hD : D <= w.heap.size) : Below D w w' :=
 (Below.refl D w).grown hg hD (fun _ hk => (zD8 h hk).1)
theorem xK6 (w : World) (n : Nat) (hn : n <= 2199023255552) : Calls Tryz.prog 125 #[.slice none 0 0, .int .i64 (n : Int)] w fun e w' => ∃ v, e = .returned v /\ w'.ownsRow w.heap.size 22 1 v 0 [] /\ Below w.heap.size w w' := by
 obtain ⟨i0, hi, hz0, hz1, hz2⟩ := info_parts yP6
 by_cases h0 : n = 0
 · subst h0
   go_enter Tryz.func125, Tryz.ntmps125
   go_wp2
   go_ret
   exact ⟨_, rfl, ⟨rfl, .inl ⟨rfl, rfl⟩⟩, Below.refl _ _⟩
 · have hp : 0 < n := by omega
   have hpz : (0 : Int) < (n : Int) := by omega
   have hpn : ¬ (n : Int) < 0 := by omega
   have HR := zA0 (Lib.run_append_nil_zeros (P := Tryz.prog) w 92 3 92 22 i0 (.slice none 0 0) .i64 .i64 Tryz.underlying92 Tryz.underlying3 hi hz0 n hp (by rw [hz1]; decide) (by omega) (by rw [hz2]; omega))
   have hg : n <= grownCap w n 0 22 /\ grownCap w n 0 22 <= maxLen := ⟨grownCap_ge w n 0 22, grownCap_le_maxLen w n 0 22 (by unfold maxLen; omega)⟩
   have HG := zA0 hg
   generalize hC : grownCap w n 0 22 = C at HR hg HG
   clear hC
   obtain ⟨hg1, hg2⟩ := hg
   have hg3 : 0 <= C := Nat.zero_le _
   generalize hZ : (Builtin.zeroCells (Value.slice none 0 0).cells n ++ Builtin.zeroCells (Value.slice none 0 0).cells (C - n)) = zs at HR
   have hzs : zs.size = C := by rw [<- hZ]; simp [Builtin.zeroCells, Value.cells]; omega
   have HZS := zA0 hzs
   clear hZ hzs hi hz0 hz1 hz2 h0
   go_enter Tryz.func125, Tryz.ntmps125
   go_wp2_with (at_builtin; refine Lib.wpList_append_run _ rfl (.tmp 20) (.tmp 21) 92 3 rfl (.slice none 0 0) (.int .i64 (n : Int)) rfl rfl _ _ HR.out ?_)
   go_ret
   have hb : Below w.heap.size w (w.drew.alloc (.cells zs 22)) := ((Below.refl _ w).drew).alloc (Nat.le_refl _) _
   exact ⟨_, rfl, World.ownsRow_made (size := 1) (e := 22) (base := w.heap.size) w.drew zs C (Nat.le_refl _) HG.out.2 (by rw [HZS.out, Nat.mul_one]), hb⟩
def yB0 (w : World) (q : Nat) (x y : Value) : Prop := w.heap[q]? = some (.cells #[x, y] 92 (0, 0))
theorem yB0.c0 {w : World} {k : Nat} {x y : Value} (h : yB0 w k x y) : w.cell? ⟨k, 0, none⟩ = some x := by rw [cell_of_row w k 0 _ 92 (0, 0) h]; rfl
theorem yB0.c1 {w : World} {k : Nat} {x y : Value} (h : yB0 w k x y) : w.cell? ⟨k, 1, none⟩ = some y := by rw [cell_of_row w k 1 _ 92 (0, 0) h]; rfl
theorem yB0.lt {w : World} {k : Nat} {x y : Value} (h : yB0 w k x y) : k < w.heap.size := zA4 h
theorem yB0.grow {w w' : World} {k : Nat} {x y : Value} (h : yB0 w k x y) (hb : Below w.heap.size w w') : yB0 w' k x y := (hb.block k h.lt).trans h
def CatP (w : World) (V L : List Value) (e : Ending) (w' : World) : Prop := ∃ v, e = .returned v /\ w'.ownsRow w.heap.size 22 1 v (V ++ L).length (V ++ L) /\ Below w.heap.size w w'
theorem yY3 (w : World) (q : Nat) (av al : Option Addr) (V L : List Value) (nv nl cv cl : Nat) (hnv : nv = V.length) (hnl : nl = L.length) (hV : VsR w av V) (hL : VsR w al L) (hq : yB0 w q (.slice av nv cv) (.slice al nl cl)) (hl : V.length + L.length <= 2199023255552) : Calls Tryz.prog 91 #[.slice (some ⟨q, 0, none⟩) 2 2] w (CatP w V L) := by
 have c0 := hq.c0
 have c1 := hq.c1
 have lt0 := hq.lt
 have HQ := zA0 hq
 have HV := zA0 hV
 have HL := zA0 hL
 have HG := zA0 (xK6 w (nv + nl) (by omega))
 have s1 : ¬ ((nv : Nat) : Int) < 0 := by omega
 have s2 : ¬ ((nv : Nat) : Int) + ((nl : Nat) : Int) < 0 := by omega
 have s4 : (nv : Int) + (nl : Int) <= 2199023255552 := by omega
 have s3 : (((nv + nl : Nat)) : Int) = (nv : Int) + (nl : Int) := by omega
 have HL1 : Hid (([] : List Value).length + V.length <= 2199023255552) := zA0 (by simp; omega)
 have HL2 : Hid (V.length + L.length <= 2199023255552) := zA0 hl
 have HNV := zA0 hnv
 have HNL := zA0 hnl
 clear hV hL hq hnv hnl hl
 go_enter Tryz.func91, Tryz.ntmps91
 go_wp2
 go_loop [3, 11] (fun z i => ∃ k : Nat, i = .int .i64 (k : Int) /\ k <= 2 /\ z = .int .i64 (if k = 0 then 0 else if k = 1 then (nv : Int) else (nv : Int) + (nl : Int))) (fun _ i => 2 - (intOf i).toNat)
 case atStart => exact ⟨0, rfl, Nat.zero_le _, rfl⟩
 case round =>
  obtain ⟨k, rfl, hk, rfl⟩ := hrel
  have hk3 : k = 0 \/ k = 1 \/ k = 2 := by omega
  rcases hk3 with rfl | rfl | rfl
  · go_wp2
    go_round
    case rel => exact ⟨1, by go_num, by omega, by go_num⟩
    case measure => simp [intOf]
  · go_wp2
    go_round
    case rel => exact ⟨2, by go_num, by omega, by go_num⟩
    case measure => simp [intOf]
  · rw [s3] at HG
    go_wp2_with (go_at_call 125; refine HG.out.mono ?_; rintro e w1 ⟨v0, rfl, hr, hb⟩; have HR0 := zA0 hr; have HB0 := zA0 hb; clear hr hb)
    go_loopw [6, 27] (fun vv i wr => ∃ (k : Nat) (v : Value), v = vv /\ i = .int .i64 (k : Int) /\ k <= 2 /\ Hid (wr.ownsRow w.heap.size 22 1 v (if k = 0 then [] else if k = 1 then V else V ++ L).length (if k = 0 then [] else if k = 1 then V else V ++ L)) /\ Hid (Below w.heap.size w wr)) (fun _ i _ => 2 - (intOf i).toNat)
    case atStart => exact ⟨0, v0, rfl, rfl, Nat.zero_le _, HR0, HB0⟩
    case round =>
     obtain ⟨k, v, rfl, rfl, hk2, HR, HB⟩ := hrel
     have hk3 : k = 0 \/ k = 1 \/ k = 2 := by omega
     have hD : Hid (w.heap.size <= wr.heap.size) := zA0 HB.out.size
     have HQr := zA0 (HQ.out.grow HB.out)
     have HVr := zA0 (HV.out.grow HB.out)
     have HLr := zA0 (HL.out.grow HB.out)
     have d0 := HQr.out.c0
     have d1 := HQr.out.c1
     have dlt := HQr.out.lt
     rcases hk3 with rfl | rfl | rfl
     · have HRa : Hid (wr.ownsRow w.heap.size 22 1 v ([] : List Value).length []) := HR
       clear HR
       go_wp2_with (at_builtin; refine zP0 wr rfl (.tmp 31) (.tmp 32) rfl w.heap.size v [] rfl HRa.out av nv cv V rfl HNV.out HVr.out HL1.out hD.out ?next)
       case next =>
        intro v1 w2 hr2 hg2 _
        have HR2 := zA0 hr2
        have HB2 := zA0 (HB.out.trans (zQ9 HRa.out hg2 hD.out))
        clear hr2 hg2
        go_wp2
        go_roundw
        case rel => exact ⟨1, _, rfl, by go_num, by omega, HR2, HB2⟩
        case measure => simp [intOf]
     · have HRa : Hid (wr.ownsRow w.heap.size 22 1 v V.length V) := HR
       clear HR
       go_wp2_with (at_builtin; refine zP0 wr rfl (.tmp 31) (.tmp 32) rfl w.heap.size v V rfl HRa.out al nl cl L rfl HNL.out HLr.out HL2.out hD.out ?next)
       case next =>
        intro v1 w2 hr2 hg2 _
        have HR2 := zA0 hr2
        have HB2 := zA0 (HB.out.trans (zQ9 HRa.out hg2 hD.out))
        clear hr2 hg2
        go_wp2
        go_roundw
        case rel => exact ⟨2, _, rfl, by go_num, by omega, (by have h := HR2; rw [<- List.length_append] at h; exact h), HB2⟩
        case measure => simp [intOf]
     · have HRa : Hid (wr.ownsRow w.heap.size 22 1 v (V ++ L).length (V ++ L)) := HR
       clear HR
       go_wp2
       go_ret
       exact ⟨v, rfl, HRa.out, HB.out⟩
end
end Go.Proofs.YtocoimjhglackaaGreat
