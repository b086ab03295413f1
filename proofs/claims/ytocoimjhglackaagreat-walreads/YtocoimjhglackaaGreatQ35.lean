/- Whb, Whc, Wib -/
import Derived.Test.YtocoimjhglackaaGreatQ34
set_option maxHeartbeats 8000000
set_option maxRecDepth 100000
namespace Go.Proofs.YtocoimjhglackaaGreat
section
open Go.RowKit Go.Maps
theorem kA8 : (Tryz.prog.info? 3).map (fun i => (i.zero, i.size, i.bytes)) = some (some (.int .i64 0), 1, 8) := by kernel_rfl
theorem kD5 : Tryz.prog.underlying 32 = some (.slice 3) := by kernel_rfl
def iv (l : List Int) : List Value := l.map (Value.int .i64 ·)
theorem kA6 (l : List Int) : ∀ u ∈ iv l, u.oneCell' = true := by
 intro u hu
 obtain ⟨n, _, rfl⟩ := List.mem_map.1 hu
 rfl
theorem yM1 {ops : Array Oper} {rest : List Oper} {o : Oper} {a : Act} {Q : Exit -> Act -> World -> Prop} (w : World) (hgd : o.guard = none) (s x : Operand) (ho : o.op = .call { callee := .builtin .append, args := #[s, x], argTypes := #[32, 32] })
    (D : Nat) (v : Value) (l : List Int) (n : Int) (hs : a.eval s = v) (hr : w.ownsRow D 3 1 v l.length (iv l)) (g : Nat) (hx : a.eval x = .slice (some ⟨g, 0, none⟩) 1 1) (hg : w.heap[g]? = some (.cells #[.int .i64 n] 3 (0, 0))) (hlen : l.length <= 1000000) (hD : D <= w.heap.size)
    (h : ∀ v' w', w'.ownsRow D 3 1 v' (l ++ [n]).length (iv (l ++ [n])) -> w.grownBy w' v.ownBlock -> (v'.ownBlock = v.ownBlock \/ v'.ownBlock = some w.heap.size) -> wpList Tryz.prog ops Q rest (a.put o.dst v') w') : wpList Tryz.prog ops Q (o :: rest) a w := by
 refine wpList_plain hgd fun K hK => ?_
 obtain ⟨i0, hi, hz0, hz1, hz2⟩ := info_parts kA8
 obtain ⟨v', w', h1, h2, h3, h4, h5⟩ := run_append_own_at (P := Tryz.prog) w D 32 o.type 3 i0 (.int .i64 0) 1 8 kD5 hi hz0 hz1 hz2 rfl (by decide) v l.length (iv l) hr ⟨g, 0, none⟩ 1 1 (iv [n]) (by simp [iv]) (fun j u hj => by
     have h0 := (List.getElem?_eq_some_iff.1 hj).1
     have : j = 0 := by simpa [iv] using h0
     subst this
     rw [Addr.add_lit, cell_of_row _ g _ _ 3 (0, 0) hg]
     simpa [iv] using hj) (kA6 [n]) (by unfold maxLen; omega) (by omega) hD
 unfold Oper.wp execOp
 simp only [ho, resolve, invoke, builtin, Sem.run_bind, Sem.run_pure, Result.andThen_ok, List.map_toArray, List.map_cons, List.map_nil, hs, hx, h1]
 refine hK _ _ (h v' w' ?_ h3 h5)
 rw [List.length_append, show iv (l ++ [n]) = iv l ++ iv [n] from by simp [iv]]
 exact h2
theorem xN1 {w : World} {D : Nat} {v : Value} {l : List Int} (h : w.ownsRow D 3 1 v l.length (iv l)) : ∃ a c, v = .slice a l.length c /\ (∀ k, v.ownBlock = some k -> D <= k) /\ (l ≠ [] -> ∃ g, a = some ⟨g, 0, none⟩ /\ g < w.heap.size /\ ∀ j x, l[j]? = some x -> w.cell? ⟨g, j, none⟩ = some (.int .i64 x)) := by
 have hd : ∀ k, v.ownBlock = some k -> D <= k := fun k hk => (zD8 h hk).1
 rcases h.2 with ⟨rfl, e⟩ | ⟨g, cap, cur, rfl, h3, h4, h5, h6, h7, h8⟩
 · obtain rfl := List.length_eq_zero_iff.1 e
   exact ⟨none, 0, rfl, hd, fun hn => absurd rfl hn⟩
 · refine ⟨_, cap, rfl, hd, fun _ => ⟨g, rfl, zA4 h4, fun j x hx => ?_⟩⟩
   rw [cell_of_row w g j cur 3 (0, 0) h4]
   have hj := (List.getElem?_eq_some_iff.1 hx).1
   have hu : (iv l)[j]? = some (.int .i64 x) := by simp [iv, hx]
   rw [<- h8, List.getElem?_take, if_pos (by omega)] at hu
   simpa using hu
def Ph (b : List UInt8) (i : Nat) (l : List Int) (n sc : Int) : Prop := ∀ t v, okN t -> okN v -> b = zE4 t v -> l = [t, v] \/
 ∃ (u : Nat) (x : Int) (r : List UInt8), (0 < u \/ sc = 1) /\ n + sc * u = 2 * x /\ b.drop i = encU u ++ r /\ ((l = [] /\ x = t /\ r = enc v) \/ (l = [t] /\ x = v /\ r = []))
theorem xE1 {t : Int} (h : okN t) : enc t = encU (2 * t).toNat := by unfold enc zG0; rw [if_neg (by have := h.1; omega)]
theorem Ph.start (b : List UInt8) : Ph b 0 [] 0 1 := fun t v ht hv hb => .inr ⟨(2 * t).toNat, t, enc v, .inr rfl, by have := ht.1; omega, by rw [List.drop_zero, hb, zE4, xE1 ht], .inl ⟨rfl, rfl, rfl⟩⟩
theorem zW0 {b r : List UInt8} {i : Nat} {x : UInt8} (h : b.drop i = x :: r) : bat b i = (x.toNat : Int) /\ b.drop (i + 1) = r := by
 have h1 : b[i]? = some x := by
  have := congrArg (fun l => l[0]?) h
  simpa using this
 refine ⟨by simp [bat, bn, List.getD, h1], ?_⟩
 rw [<- List.drop_drop, h]; rfl
theorem Ph.last {b : List UInt8} {i : Nat} {l : List Int} {n sc : Int} (h : Ph b i l n sc) (hl : l.length < 2) (hx : bat b i < 128) : Ph b (i + 1) (l ++ [(n + bat b i % 128 * sc) / 2]) 0 1 := by
 intro t v ht hv hb
 rcases h t v ht hv hb with rfl | ⟨u, x, r, h1, h2, h3, h4⟩
 · simp at hl
 · by_cases hu : u < 128
   · rw [zE5 u hu] at h3
     obtain ⟨e1, e2⟩ := zW0 h3
     rw [<- zT4 u hu] at e1
     have e3 : (n + bat b i % 128 * sc) / 2 = x := by
      rw [e1, Int.emod_eq_of_lt (by omega) (by omega), Int.mul_comm, h2]; omega
     rw [e3]
     rcases h4 with ⟨rfl, rfl, rfl⟩ | ⟨rfl, rfl, rfl⟩
     · exact .inr ⟨(2 * v).toNat, v, [], .inr rfl, by have := hv.1; omega, by rw [e2, List.append_nil, xE1 hv]; rfl, .inr ⟨rfl, rfl, rfl⟩⟩
     · exact .inl rfl
   · rw [zH4 u hu] at h3
     obtain ⟨e1, e2⟩ := zW0 h3
     rw [<- yA7 u] at e1
     omega
theorem Ph.more {b : List UInt8} {i : Nat} {l : List Int} {n sc : Int} (h : Ph b i l n sc) (hx : ¬ bat b i < 128) : Ph b (i + 1) l (n + bat b i % 128 * sc) (sc * 128) := by
 intro t v ht hv hb
 rcases h t v ht hv hb with rfl | ⟨u, x, r, h1, h2, h3, h4⟩
 · exact .inl rfl
 · by_cases hu : u < 128
   · rw [zE5 u hu] at h3
     obtain ⟨e1, e2⟩ := zW0 h3
     rw [<- zT4 u hu] at e1
     omega
   · rw [zH4 u hu] at h3
     obtain ⟨e1, e2⟩ := zW0 h3
     rw [<- yA7 u] at e1
     refine .inr ⟨u / 128, x, r, .inl (by omega), ?_, e2, h4⟩
     have e3 : bat b i % 128 = ((u % 128 : Nat) : Int) := by omega
     rw [e3, <- h2]
     have e4 : (u : Int) = (u % 128 : Nat) + 128 * (u / 128 : Nat) := by omega
     generalize ((u % 128 : Nat) : Int) = p at *
     generalize ((u / 128 : Nat) : Int) = q at *
     rw [e4, Int.mul_add, Int.mul_comm p sc, Int.mul_assoc, Int.add_assoc]
theorem Ph.end {b : List UInt8} {i : Nat} {l : List Int} {n sc : Int} (h : Ph b i l n sc) (hn : 0 <= n) (hs : 1 <= sc) (he : ¬ (i < b.length /\ l.length < 2 /\ sc <= 4398046511104)) (hok : okH b) : l = [(dH b).1, (dH b).2] := by
 rcases h _ _ hok.2.1 hok.2.2 (yT1 hok) with e | ⟨u, x, r, h1, h2, h3, h4⟩
 · exact e
 · exfalso
   apply he
   have hx : okN x := by rcases h4 with ⟨_, rfl, _⟩ | ⟨_, rfl, _⟩ <;> first | exact hok.2.1 | exact hok.2.2
   refine ⟨?_, by rcases h4 with ⟨rfl, _⟩ | ⟨rfl, _⟩ <;> simp, ?_⟩
   · refine Classical.byContradiction fun hc => ?_
     rw [List.drop_eq_nil_of_le (by omega)] at h3
     have := congrArg List.length h3
     have h5 : encU u ≠ [] := by
      by_cases hu : u < 128
      · rw [zE5 u hu]; simp
      · rw [zH4 u hu]; simp
     have h6 := List.length_pos_iff.2 h5
     simp at this; omega
   · rcases h1 with h1 | h1
     · have h7 : sc <= sc * u := by
         have := Int.mul_le_mul_of_nonneg_left (show (1 : Int) <= u by omega) (show 0 <= sc by omega)
         simpa using this
       have := hx.2
       omega
     · omega
theorem xS1 (tmps : Array Value) (W : World) (g : Nat) (x y : Int) (bl : Bool) (h2 : tmps[2]?.getD undef = .pointer (some ⟨g, 0, none⟩)) (h3 : tmps[3]?.getD undef = .bool bl) (hg : W.heap[g]? = some (.cells #[.int .i64 x, .int .i64 y] 31 (0, 0))) : (results Tryz.f40 tmps).run Tryz.prog W = .ok (.tuple #[.agg #[.int .i64 x, .int .i64 y], .bool bl]) W := by
 have hl := run_loadVar_row (P := Tryz.prog) W g 31 31 #[.int .i64 x, .int .i64 y] (0, 0) _ hg Tryz.underlying31 rfl xN9
 simp [results, Tryz.results40, asAddr, h2, h3, hl]
def GrP (w : World) (b : List UInt8) (e : Ending) (w' : World) : Prop := ∃ x y : Int, e = .returned (.tuple #[.agg #[.int .i64 x, .int .i64 y], .bool (decide (okH b))]) /\ (okH b -> x = (dH b).1 /\ y = (dH b).2) /\ Below w.heap.size w w'
theorem yN3 (a : Option Addr) (nb cap : Nat) (b : List UInt8) (w : World) (hn : nb = b.length) (hb : Bs w a b) (hbl : b.length <= 1048576) : Calls Tryz.prog 40 #[.slice a nb cap] w (GrP w b) := by
 have HN := zA0 hn
 have HBS := zA0 hb
 have hnb : (nb : Int) <= 1048576 := by omega
 clear hn hb hbl
 go_enter Tryz.func40, Tryz.ntmps40
 go_wp2
 go_loopw [4, 5, 6, 7] (fun vv nn ss ii wr => ∃ (k : Nat) (ns : List Int) (v : Value) (x sc : Int), v = vv /\ ii = .int .i64 (k : Int) /\ nn = .int .i64 x /\ ss = .int .i64 sc /\ k <= nb /\ ns.length <= 2 /\ 0 <= x /\ x < sc /\ 1 <= sc /\ sc <= 562949953421312 /\ Hid (wr.ownsRow (w.heap.size + 1) 3 1 v ns.length (iv ns)) /\ Hid (∀ y ∈ ns, 0 <= y /\ y <= 562949953421312) /\ Hid (Ph b k ns x sc) /\ Hid (Below (w.heap.size + 1) (w.alloc (.cells #[.int .i64 0, .int .i64 0] 31)) wr)) (fun _ _ _ ii _ => nb - (intOf ii).toNat)
 case atStart => exact ⟨0, [], _, 0, 1, rfl, rfl, rfl, rfl, Nat.zero_le _, by simp, by omega, by omega, by omega, by omega, zA0 ⟨rfl, .inl ⟨rfl, rfl⟩⟩, zA0 (fun y hy => by cases hy), zA0 (Ph.start b), zA0 (Below.refl _ _)⟩
 case round =>
  obtain ⟨k, ns, v, x, sc, rfl, rfl, rfl, rfl, hk, hns, hx0, hx1, hs0, hs1, HR, HY, HP, HB⟩ := hrel
  have HSZ : Hid (w.heap.size + 1 <= wr.heap.size) := zA0 (by have := HB.out.size; simpa using this)
  obtain ⟨av, cv, hv, hvf, hvc⟩ := xN1 HR.out
  subst hv
  have HVF := zA0 hvf
  have HVC := zA0 hvc
  clear hvf hvc
  by_cases hgo : k < nb /\ ns.length < 2 /\ sc <= 4398046511104
  · obtain ⟨g1, g2, g3⟩ := hgo
    have hBk : Bs wr a b := by
     have h1 := (HBS.out.grow (zB7 w (.cells #[.int .i64 0, .int .i64 0] 31)))
     exact h1.grow (HB.out.mono (by simp))
    obtain ⟨gb, off, rfl, hbb, hbc⟩ := hBk.2 (by intro e; have := HN.out; rw [e] at this; simp at this; omega)
    have hc := hbc k (by have := HN.out; omega)
    have b0 := zO8 b k
    have b1 := zO9 b k
    have HB0 := zA0 HP.out
    have p0 : 0 <= bat b k % 128 * sc := Int.mul_nonneg (by omega) (by omega)
    have p1 : bat b k % 128 * sc <= 127 * sc := Int.mul_le_mul_of_nonneg_right (by omega) (by omega)
    clear hbc hBk
    by_cases hbt : bat b k < 128
    · have HP2 := zA0 (HP.out.last g2 hbt)
      generalize hbx : bat b k = bt at *
      clear hbx
      go_wp2_with (at_builtin; refine yM1 _ rfl (.tmp 44) (.tmp 47) rfl (w.heap.size + 1) _ ns _ rfl ?row _ rfl (heap_alloc_new _ _) (by omega) ?siz ?next)
      case row => exact HR.out.alloc _
      case siz => have := HSZ.out; simp; omega
      case next =>
       intro v' w1 hr1 hg1 hv1
       rw [show ns.length + 1 = (ns ++ [(x + bt % 128 * sc) / 2]).length from by simp] at hr1
       have HBn : Hid (Below (w.heap.size + 1) (w.alloc (.cells #[.int .i64 0, .int .i64 0] 31)) w1) := zA0 ((HB.out.alloc HSZ.out _).grown hg1 (by have := HSZ.out; simp; omega) HVF.out)
       have HRn := zA0 hr1
       obtain ⟨a', c', hv', _⟩ := xN1 hr1
       subst hv'
       clear hr1 hg1 hv1
       go_wp2
       refine ⟨⟨k + 1, _, _, 0, 1, rfl, by go_num, rfl, rfl, by omega, by simp; omega, by omega, by omega, by omega, by omega, HRn, zA0 (fun y hy => ?_), HP2, HBn⟩, by simp [intOf]; omega⟩
       rcases List.mem_append.1 hy with hy | hy
       · exact HY.out y hy
       · rw [List.mem_singleton.1 hy]; omega
    · have HP2 := zA0 (HP.out.more hbt)
      generalize hbx : bat b k = bt at *
      clear hbx
      go_wp2
      refine ⟨⟨k + 1, ns, _, x + bt % 128 * sc, sc * 128, rfl, by go_num, rfl, rfl, by omega, by omega, by omega, by omega, by omega, by omega, HR, HY, HP2, HB⟩, by simp [intOf]; omega⟩
  · have HEND : Hid (okH b -> ns = [(dH b).1, (dH b).2]) := zA0 (fun h => HP.out.end hx0 hs0 (by rw [<- HN.out]; exact hgo) h)
    have hg0 : wr.heap[w.heap.size]? = some (.cells #[.int .i64 0, .int .i64 0] 31 (0, 0)) := (HB.out.block _ (by omega)).trans (heap_alloc_new w _)
    have HB0 : Hid (Below w.heap.size w wr) := zA0 ((zB7 w _).trans (HB.out.mono (by omega)))
    by_cases hm : ns.length = 2
    · obtain ⟨x0, x1, rfl⟩ : ∃ x0 x1, ns = [x0, x1] := by
        match ns, hm with
        | [x0, x1], _ => exact ⟨x0, x1, rfl⟩
      obtain ⟨g, rfl, hgl, hgc⟩ := HVC.out (by simp)
      have c0 := hgc 0 x0 rfl
      have c1 := hgc 1 x1 rfl
      have y0 := HY.out x0 (by simp)
      have y1 := HY.out x1 (by simp)
      have HBK : Hid (Bs wr a b) := zA0 (HBS.out.grow HB0.out)
      have f0 : ∀ o, wr.frozen? ⟨w.heap.size, o, none⟩ = false := fun o => by simp [World.frozen?, hg0]
      have HG0 := zA0 hg0
      have hgo2 : k = k := rfl
      clear hgo hgc hg0 hm hns hgo2
      go_wp2_with fail
      all_goals go_region
      all_goals go_wp2_with fail
      all_goals
       refine (yN5 x0 x1 _).mono ?_
       rintro e w1 ⟨hB1, val, hyes, hno, rfl⟩
       have HG1 : Hid (w1.heap[w.heap.size]? = some (.cells #[.int .i64 0, .int .i64 0] 31 (0, 0))) := zA0 ((hB1.block _ (by have := zA4 HG0.out; simp; omega)).trans ((Below.heap_alloc _ _ _ (zA4 HG0.out)).trans HG0.out))
       have HG8 : Hid (w1.heap[wr.heap.size]? = some (.cells #[.int .i64 x0, .int .i64 x1] 31 (0, 0))) := zA0 ((hB1.block _ (by simp)).trans (heap_alloc_new wr _))
       have HBW : Hid (Below w.heap.size w w1) := zA0 (((HB0.out.alloc HB0.out.size _).drew).trans (hB1.mono (by have := HB0.out.size; simp; omega)))
       have HBB : Hid (Bs w1 a b) := zA0 (HBS.out.grow HBW.out)
       clear c0 c1 f0
       by_cases hok : okN x0 /\ okN x1
       · obtain ⟨hown, _, _⟩ := hyes hok
         obtain ⟨a1, c1, rfl, hb1⟩ := hown.form
         have hl12 := zI7 hok.1 hok.2
         have hsame := zJ1 a1 a (zE4 x0 x1).length nb c1 cap (zE4 x0 x1) b w1 rfl HN.out (hb1 (by omega)) HBB.out
         have HSAME := zA0 hsame
         have HIFF : Hid (decide (zE4 x0 x1 = b) = decide (okH b)) := zA0 (by
          by_cases h : okH b
          · have e1 := HEND.out h
            simp only [List.cons.injEq, and_true] at e1
            rw [decide_eq_true h, e1.1, e1.2, <- yT1 h]; simp
          · rw [decide_eq_false h]
            refine decide_eq_false fun e => h ?_
            rw [<- e]; exact (yE9 hok.1 hok.2).1)
         rw [decide_eq_true hok]
         clear hyes hno hown hb1 hl12 hok hsame hB1
         generalize (zE4 x0 x1).length = n1 at *
         have g0 : w1.heap[w.heap.size]? = some (.cells #[.int .i64 0, .int .i64 0] 31 (0, 0)) := HG1.out
         have g8 : w1.heap[wr.heap.size]? = some (.cells #[.int .i64 x0, .int .i64 x1] 31 (0, 0)) := HG8.out
         have d0 : w1.cell? ⟨w.heap.size, 0, none⟩ = some (.int .i64 0) := by rw [cell_of_row _ _ _ _ 31 (0, 0) g0]; rfl
         have d1 : w1.cell? ⟨w.heap.size, 1, none⟩ = some (.int .i64 0) := by rw [cell_of_row _ _ _ _ 31 (0, 0) g0]; rfl
         have e0 : w1.cell? ⟨wr.heap.size, 0, none⟩ = some (.int .i64 x0) := by rw [cell_of_row _ _ _ _ 31 (0, 0) g8]; rfl
         have e1 : w1.cell? ⟨wr.heap.size, 1, none⟩ = some (.int .i64 x1) := by rw [cell_of_row _ _ _ _ 31 (0, 0) g8]; rfl
         have f1 : ∀ o, w1.frozen? ⟨w.heap.size, o, none⟩ = false := fun o => by simp [World.frozen?, g0]
         have l1 := zA4 g0
         have l8 := zA4 g8
         clear g0 g8
         go_wp2_with fail
         refine HSAME.out.mono ?_
         rintro e w2 ⟨rfl, nq, rfl⟩
         rw [HIFF.out]
         obtain ⟨bb, hbb⟩ : ∃ bb, bb = decide (okH b) := ⟨_, rfl⟩
         rw [<- hbb]
         have HBQ := zA0 hbb
         have HXY : Hid (okH b -> x0 = (dH b).1 /\ x1 = (dH b).2) := zA0 (fun h => by have e1 := HEND.out h; simpa using e1)
         clear hbb
         go_wp2_with fail
         refine bodyPost_ret (v := .tuple #[.agg #[.int .i64 x0, .int .i64 x1], .bool bb]) ?_ rfl ⟨x0, x1, by rw [HBQ.out], HXY.out, ?_⟩
         · exact xS1 _ _ w.heap.size _ _ bb rfl rfl (set2 (w := w1.drewN nq) HG1.out _ _)
         · exact (HBW.out.trans (⟨rfl, rfl, rfl, Nat.le_refl _, fun _ _ => rfl⟩ : Below w.heap.size w1 (w1.drewN nq))).trans (zH2 _ _ _ _)
       · have HV := zA0 (hno hok)
         have hval := hno hok
         subst hval
         have hnoH : ¬ okH b := fun h => hok (by have e1 := HEND.out h; simp only [List.cons.injEq, and_true] at e1; rw [e1.1, e1.2]; exact h.2)
         obtain ⟨bb, hbb⟩ : ∃ bb, bb = false := ⟨_, rfl⟩
         have HBQ : Hid (bb = decide (okH b)) := zA0 (by rw [hbb, decide_eq_false hnoH])
         have HBF := zA0 hbb
         have HXY : Hid (okH b -> x0 = (dH b).1 /\ x1 = (dH b).2) := zA0 (fun h => absurd h hnoH)
         have HSAME := zA0 (zJ1 none a 0 nb 0 cap [] b w1 rfl HN.out ⟨by simp, fun h => absurd rfl h⟩ HBB.out)
         rw [decide_eq_false hok]
         clear hyes hno hok hB1 hbb hnoH
         have g0 : w1.heap[w.heap.size]? = some (.cells #[.int .i64 0, .int .i64 0] 31 (0, 0)) := HG1.out
         have g8 : w1.heap[wr.heap.size]? = some (.cells #[.int .i64 x0, .int .i64 x1] 31 (0, 0)) := HG8.out
         have d0 : w1.cell? ⟨w.heap.size, 0, none⟩ = some (.int .i64 0) := by rw [cell_of_row _ _ _ _ 31 (0, 0) g0]; rfl
         have d1 : w1.cell? ⟨w.heap.size, 1, none⟩ = some (.int .i64 0) := by rw [cell_of_row _ _ _ _ 31 (0, 0) g0]; rfl
         have e0 : w1.cell? ⟨wr.heap.size, 0, none⟩ = some (.int .i64 x0) := by rw [cell_of_row _ _ _ _ 31 (0, 0) g8]; rfl
         have e1 : w1.cell? ⟨wr.heap.size, 1, none⟩ = some (.int .i64 x1) := by rw [cell_of_row _ _ _ _ 31 (0, 0) g8]; rfl
         have f1 : ∀ o, w1.frozen? ⟨w.heap.size, o, none⟩ = false := fun o => by simp [World.frozen?, g0]
         have l1 := zA4 g0
         have l8 := zA4 g8
         clear g0 g8
         go_wp2_with fail
         refine HSAME.out.mono ?_
         rintro e w2 ⟨rfl, nq, rfl⟩
         generalize decide ([] = b) = bq
         go_wp2_with fail
         rw [<- HBF.out]
         refine bodyPost_ret (v := .tuple #[.agg #[.int .i64 x0, .int .i64 x1], .bool bb]) ?_ rfl ⟨x0, x1, by rw [HBQ.out], HXY.out, ?_⟩
         · exact xS1 _ _ w.heap.size _ _ bb rfl rfl (set2 (w := w1.drewN nq) HG1.out _ _)
         · exact (HBW.out.trans (⟨rfl, rfl, rfl, Nat.le_refl _, fun _ _ => rfl⟩ : Below w.heap.size w1 (w1.drewN nq))).trans (zH2 _ _ _ _)
    · have hno : ¬ okH b := fun h => hm (by rw [HEND.out h]; rfl)
      have HE3 : Hid (decide (okH b) = false) := zA0 (decide_eq_false hno)
      have HNO := zA0 hno
      have hor : nb <= k \/ (k < nb /\ 4398046511104 < sc) := by omega
      have hne : (((ns.length : Nat) : Int) != 2) = true := by rw [bne_iff_ne]; omega
      have f0 : ∀ o, wr.frozen? ⟨w.heap.size, o, none⟩ = false := fun o => by simp [World.frozen?, hg0]
      have c0 : wr.cell? ⟨w.heap.size, 0, none⟩ = some (.int .i64 0) := by rw [cell_of_row _ _ _ _ 31 (0, 0) hg0]; rfl
      have c1 : wr.cell? ⟨w.heap.size, 1, none⟩ = some (.int .i64 0) := by rw [cell_of_row _ _ _ _ 31 (0, 0) hg0]; rfl
      have l4 := zA4 hg0
      have HG0 := zA0 hg0
      clear hg0 hno hgo
      have hlt2 : ns.length < 2 := by omega
      clear hm hns
      rcases hor with hor | ⟨ho1, ho2⟩
      all_goals
       go_wp2
       refine bodyPost_ret (v := .tuple #[.agg #[.int .i64 0, .int .i64 0], .bool false]) ?_ rfl ⟨0, 0, by rw [HE3.out], fun h => absurd h HNO.out, ?_⟩
       · exact xS1 _ _ w.heap.size _ _ false rfl rfl (set2 HG0.out _ _)
       · exact HB0.out.trans (zH2 _ _ _ _)
end
section
open Go.RowKit Go.Maps
theorem zF7 {w : World} {S : Nat -> Prop} {cs : List Value} {v : Vl zC6} (h : Rep w S zC6 cs v) : ∃ av nv cv al nl cl ad nd cd ea ec, cs = [.int .i64 v.1.1, .int .i64 v.1.2, .int .i64 v.2.1.1, .int .i64 v.2.1.2.1, .slice av nv cv, .slice al nl cl, .slice ad nd cd, .slice ea v.2.2.length ec] /\ Rep w S zA2 [.int .i64 v.2.1.1, .int .i64 v.2.1.2.1, .slice av nv cv, .slice al nl cl, .slice ad nd cd] v.2.1 /\ RepL w S zA8 ea v.2.2 := by
 obtain ⟨xs, ys, rfl, ⟨x1, x2, rfl, h1, h2⟩, x3, x4, rfl, h3, h4⟩ := h
 rw [show x1 = _ from h1, show x2 = _ from h2]
 obtain ⟨av, cv, al, cl, ad, cd, rfl, _⟩ := zJ9 h3
 obtain ⟨ea, ec, rfl, h5, h6⟩ := h4
 exact ⟨av, _, cv, al, _, cl, ad, _, cd, ea, ec, rfl, h3, h5, h6⟩
theorem Okd.idx {s : Sd} (h : Okd s) {k : Nat} (hk : k < (s.bs.map dE).length) : eI (s.bs.map dE)[k] = s.base + 1 + k := by
 rw [List.getElem_map]
 exact (h.es k _ (List.getElem?_eq_getElem (by simpa using hk))).2
theorem Okd.snI {s : Sd} (h : Okd s) : (snV s).1 = s.base := by
 unfold snV
 cases hs : s.sn with
 | none => rw [h.no hs]; rfl
 | some b => rw [(h.sn b hs).2]; rfl
theorem yP9 (S : Nat -> Prop) (cs : List Value) (s : Sd) (n : Int) (bb : Bool) (w : World) (hr : Rep w S zC6 cs (dec s)) (hS : ∀ k, S k -> k < w.heap.size) (hok : Okd s) (hbb : decide (s.base < n /\ n <= s.base + s.bs.length + 1) = bb) : Calls Tryz.prog 42 #[.agg cs.toArray, .int .i64 n] w fun e w' => e = .returned (.bool bb) /\ Below w.heap.size w w' := by
 obtain ⟨av, nv, cv, al, nl, cl, ad, nd, cd, ea, ec, rfl, hsn, hrl⟩ := zF7 hr
 have HRL := zA0 hrl
 have HS := zA0 hS
 have HOK := zA0 hok
 have hI := hok.snI
 have hlen := hok.len
 have hb0 := hok.base.1
 have hb1 := hok.base.2
 have hml : (s.bs.map dE).length = s.bs.length := by simp
 simp only [dec] at *
 rw [hI, hml]
 clear hr hsn hrl hI hS hok
 have HBB := zA0 hbb
 clear hbb
 generalize hB : s.base = base at *
 generalize hN : s.bs.length = len at *
 go_enter Tryz.func42, Tryz.ntmps42
 go_wp2
 go_loopw [5, 6] (fun ll i wr => ∃ (k : Nat), k <= len /\ i = .int .i64 (k : Int) /\ ll = .int .i64 (base + k) /\ Hid (wr.heap[w.heap.size]? = some (.cells #[.int .i64 s.t, .int .i64 s.v, .int .i64 base, .int .i64 (snV s).2.1, .slice av nv cv, .slice al nl cl, .slice ad nd cd, .slice ea len ec] 39 (0, 0))) /\ Hid (Below w.heap.size w wr)) (fun _ i _ => len - (intOf i).toNat)
 case atStart => exact ⟨0, Nat.zero_le _, rfl, by simp, zA0 (heap_alloc_new w _), zA0 (zB7 w _)⟩
 case round =>
  obtain ⟨k, hk, rfl, rfl, HG, HB⟩ := hrel
  have c2 : wr.cell? ⟨w.heap.size, 2, none⟩ = some (.int .i64 base) := by rw [cell_of_row _ _ _ _ 39 (0, 0) HG.out]; rfl
  have c7 : wr.cell? ⟨w.heap.size, 7, none⟩ = some (.slice ea len ec) := by rw [cell_of_row _ _ _ _ 39 (0, 0) HG.out]; rfl
  have l0 := zA4 HG.out
  by_cases hlt : k < len
  · have hlt' : k < (s.bs.map dE).length := by rw [hml]; exact hlt
    obtain ⟨b, off, es, rfl, hSb, hrep, hrg⟩ := Rep.load HRL.out hlt'
    obtain ⟨r, he, _⟩ := zF4 hrep
    have hx : wr.cell? ⟨b, off + k * 29, none⟩ = some (.int .i64 (base + 1 + k)) := by
     rw [HB.out.cell (p := ⟨b, off + k * 29, none⟩) (HS.out b hSb)]
     have := hrg 0 (.int .i64 (eI (s.bs.map dE)[k])) (by rw [he]; rfl)
     rw [HOK.out.idx hlt', hB] at this
     simpa using this
    have lb : b < wr.heap.size := Nat.lt_of_lt_of_le (HS.out b hSb) HB.out.size
    clear he hrep hrg hlt'
    go_wp2
    exact ⟨⟨k + 1, by omega, by go_num, by go_num, HG, HB⟩, by simp [intOf]; omega⟩
  · have hkn : k = len := by omega
    subst hkn
    have hst : s.bs.length = k := hN
    clear hN
    go_wp2
    all_goals
     go_ret
     first
      | (have hb2 : bb = false := by rw [<- HBB.out]; exact decide_eq_false (by omega)
         rw [hb2]; exact ⟨rfl, HB.out⟩)
      | (have hb2 : bb = decide (n <= base + (k : Int) + 1) := by rw [<- HBB.out]; exact decide_eq_decide.2 (by omega)
         rw [hb2]; exact ⟨rfl, HB.out⟩)
end
section
open Go.RowKit Go.Maps
theorem zY6 (w : World) : Calls Tryz.prog 12 #[] w fun e w' => e = .returned (.bool true) /\ Below w.heap.size w w' := by
 go_enter Tryz.func12, Tryz.ntmps12
 go_wp2_with fail
 refine (xN7 w).mono ?_
 rintro e w1 ⟨F1, rfl, hd1, hf1, hB1⟩
 have HD1 := zA0 hd1
 have HF1 := zA0 hf1
 have HB1 := zA0 hB1
 clear hd1 hf1 hB1
 obtain ⟨p, hp⟩ : ∃ p, p = w.heap.size + 1 + 1 := ⟨_, rfl⟩
 rw [<- hp] at HD1 ⊢
 have HP := zA0 hp
 clear hp
 go_wp2_with fail
 refine (zW2 p 0 M0 F1 w1 HD1.out rfl cln0.fw (by omega)).mono ?_
 intro e w2 ho
 have e0 : rdF sd0 (cOf M0.files lgN) = some (sd0, 0) := zS5 sd0
 unfold OpP at ho
 rw [e0] at ho
 simp only at ho
 obtain ⟨q, F2, cs, rfl, hw2, hr2, hfr2, hq2⟩ := ho
 have eM : opM M0 0 = M0 := rfl
 rw [eM] at hw2
 have HW2 := zA0 hw2
 have HB2 : Hid (Below w.heap.size w w2) := zA0 (HB1.out.trans (hfr2.below HB1.out.size HF1.out))
 have HF2 : Hid (∀ k, F2 k -> w.heap.size <= k) := zA0 (hfr2.above HB1.out.size HF1.out)
 have HQ2 : Hid (w.heap.size <= q) := zA0 (Nat.le_trans HB1.out.size hq2)
 obtain ⟨av, nv, cv, al, nl, cl, ad, nd, cd, ea, ec, rfl, _, _⟩ := zF7 hr2
 clear hw2 hr2 hfr2 hq2 e0 eM
 simp only [dec, sd0, List.map_nil, List.length_nil]
 generalize (snV ⟨0, 0, none, 0, []⟩).1 = bi
 generalize (snV ⟨0, 0, none, 0, []⟩).2.1 = bt
 go_wp2_with fail
 obtain ⟨w3, hw3⟩ : ∃ w3, w3 = w2.alloc (.cells #[.int .i64 0, .int .i64 0, .int .i64 bi, .int .i64 bt, .slice av nv cv, .slice al nl cl, .slice ad nd cd, .slice ea 0 ec] 39) := ⟨_, rfl⟩
 have HB3 : Hid (Below w2.heap.size w2 w3) := zA0 (by rw [hw3]; exact zB7 w2 _)
 have hs3 : w3.heap.size = w2.heap.size + 1 := by rw [hw3]; simp
 rw [<- hw3, <- hs3]
 clear hw3 hs3
 have HSV := zA0 (yV5 q p 4 M0 F2 sd0 1 2 (some ⟨w3.heap.size, 0, none⟩) 1 1 [En1 1] (w3.alloc (.cells (Ec 1).toArray 73)) (HW2.out.below (HB3.out.alloc HB3.out.size _)) rfl (xG8 w3 1) (by simp) cln0.fw (by omega) (fun _ => xZ5) (fun _ => by show m1.bs.length <= _; rw [zM9.2.2.2]; omega))
 have HBa : Hid (Below w.heap.size w (w3.alloc (.cells (Ec 1).toArray 73))) := zA0 ((HB2.out.trans (HB3.out.mono HB2.out.size)).alloc (by have := HB2.out.size; have := HB3.out.size; omega) _)
 refine Calls.mono HSV.out ?_
 rintro e w4 (⟨hn, _⟩ | ⟨_, hsv⟩)
 · exact absurd acc1 hn
 obtain ⟨F4, hfr4, rfl, hw4⟩ := hsv.good rfl
 have hg4 := kE9.save acc1
 obtain ⟨M4, hM4⟩ : ∃ M4, M4 = runT (zN4 M0 (moS 1 2 [En1 1]) (nxS sd0 1 2 [En1 1])) (zN4 M0 (moS 1 2 [En1 1]) (nxS sd0 1 2 [En1 1])).length M0 := ⟨_, rfl⟩
 rw [<- hM4] at hw4 hg4
 have HW4 : Hid (WalR w4 q p M4 8 F4 m1 false) := zA0 hw4
 have HG4 : Hid (Good M4 m1) := zA0 hg4
 have hFq : ∀ k, Fq F2 q k -> w.heap.size <= k := fun k hk => by
  rcases hk with hk | hk
  · exact HF2.out k hk
  · rw [hk]; exact HQ2.out
 have HB4 : Hid (Below w.heap.size w w4) := zA0 (HBa.out.trans (hfr4.below HBa.out.size hFq))
 have HF4 : Hid (∀ k, F4 k -> w.heap.size <= k) := zA0 (fun k hk => hfr4.above HBa.out.size hFq k (.inl hk))
 clear hsv hfr4 hw4 hg4 hM4 hFq HSV HBa HW2 HB3 HD1 HF1
 go_wp2_with fail
 have HS5 := zA0 (yV5 q p 8 M4 F4 m1 1 2 (some ⟨w4.heap.size, 0, none⟩) 1 1 [En1 3] (w4.alloc (.cells (Ec 3).toArray 73)) (HW4.out.below (zB7 w4 _)) rfl (xG8 w4 3) (by simp) HG4.out.cln.fw (by omega) (fun h => absurd h acc3) (fun h => absurd h acc3))
 refine Calls.mono HS5.out ?_
 intro e w5 h5
 obtain ⟨rfl, hB5⟩ : e = .returned (.int .i64 1) /\ Below (w4.alloc (.cells (Ec 3).toArray 73)).heap.size (w4.alloc (.cells (Ec 3).toArray 73)) w5 := by
  rcases h5 with ⟨_, a, b⟩ | ⟨h, _⟩
  · exact ⟨a, b⟩
  · exact absurd h acc3
 clear h5
 have HB45 : Hid (Below w4.heap.size w4 w5) := zA0 ((zB7 w4 _).trans (hB5.mono (by simp)))
 have HD5 : Hid (Dsk w5 p M4 8 F4) := zA0 (HW4.out.dsk.below HB45.out)
 have HB5 : Hid (Below w.heap.size w w5) := zA0 (HB4.out.trans (HB45.out.mono HB4.out.size))
 clear hB5 HS5 HB45 HW4
 go_wp2_with fail
 refine (yV0 0 p 8 M4 F4 w5 HD5.out (by omega)).mono ?_
 rintro e w6 ⟨F6, rfl, hd6, hfr6⟩
 rw [HG4.out.cln.crash] at hd6
 have HD6 := zA0 hd6
 have HB6 : Hid (Below w.heap.size w w6) := zA0 (HB5.out.trans (hfr6.below HB5.out.size HF4.out))
 have HF6 : Hid (∀ k, F6 k -> w.heap.size <= k) := zA0 (hfr6.above HB5.out.size HF4.out)
 clear hd6 hfr6
 go_wp2_with fail
 refine (zW2 p 8 M4 F6 w6 HD6.out HG4.out.cln.left HG4.out.cln.fw (by omega)).mono ?_
 intro e w7 ho
 unfold OpP at ho
 rw [HG4.out.rd] at ho
 simp only at ho
 obtain ⟨q7, F7, cs7, rfl, hw7, hr7, hfr7, hq7⟩ := ho
 have HB7 : Hid (Below w.heap.size w w7) := zA0 (HB6.out.trans (hfr7.below HB6.out.size HF6.out))
 obtain ⟨av, nv, cv, al, nl, cl, ad, nd, cd, ea, ec, rfl, _, hrl⟩ := zF7 hr7
 have hm1 : (dec m1).2.2.length = 1 := by show (m1.bs.map dE).length = 1; rw [List.length_map]; exact zM9.2.2.2
 obtain ⟨b, off, es, rfl, hSb, hre, hrg⟩ := Rep.load (k := 0) hrl (by rw [hm1]; omega)
 obtain ⟨r, he, _⟩ := zF4 hre
 have hx : w7.cell? ⟨b, off, none⟩ = some (.int .i64 1) := by
  have h0 := hrg 0 (.int .i64 (eI ((dec m1).2.2[0]'(by rw [hm1]; omega)))) (by rw [he]; rfl)
  have h1 : eI ((dec m1).2.2[0]'(by rw [hm1]; omega)) = m1.base + 1 + (0 : Nat) := Okd.idx HG4.out.okd (k := 0) (by rw [List.length_map, zM9.2.2.2]; omega)
  rw [h1, zM9.2.2.1] at h0
  simpa using h0
 have lb : b < w7.heap.size := hSb.1
 rw [hm1]
 have e1 : (dec m1).1.1 = 1 := zM9.1
 have e2 : (dec m1).1.2 = 2 := zM9.2.1
 rw [e1, e2]
 generalize (dec m1).2.1.1 = bi
 generalize (dec m1).2.1.2.1 = bt
 have HX := zA0 hx
 have HLB := zA0 lb
 clear hw7 hr7 hfr7 hq7 hrl hre hrg he hm1 hx lb e1 e2
 go_wp2_with fail
 refine (xM5 _).mono ?_
 rintro e w9 ⟨rfl, hB9⟩
 have G9 : Hid (w9.heap[w7.heap.size]? = some (.cells #[.int .i64 1, .int .i64 2, .int .i64 bi, .int .i64 bt, .slice av nv cv, .slice al nl cl, .slice ad nd cd, .slice (some ⟨b, off, none⟩) 1 ec] 39 (0, 0))) := zA0 ((hB9.block _ (by simp)).trans (heap_alloc_new w7 _))
 have x9 : w9.cell? ⟨b, off, none⟩ = some (.int .i64 1) := (hB9.cell (p := ⟨b, off, none⟩) (by have := HLB.out; simp; omega)).trans ((World.cell?_of_block (a := ⟨b, off, none⟩) (Below.heap_alloc w7 _ b HLB.out)).trans HX.out)
 have HB9 : Hid (Below w.heap.size w w9) := zA0 ((HB7.out.alloc HB7.out.size _).trans (hB9.mono (by have := HB7.out.size; simp; omega)))
 have lb9 : b < w9.heap.size := by have := hB9.size; have := HLB.out; simp at *; omega
 have c0 : w9.cell? ⟨w7.heap.size, 0, none⟩ = some (.int .i64 1) := by rw [cell_of_row _ _ _ _ 39 (0, 0) G9.out]; rfl
 have c1 : w9.cell? ⟨w7.heap.size, 1, none⟩ = some (.int .i64 2) := by rw [cell_of_row _ _ _ _ 39 (0, 0) G9.out]; rfl
 have c7 : w9.cell? ⟨w7.heap.size, 7, none⟩ = some (.slice (some ⟨b, off, none⟩) 1 ec) := by rw [cell_of_row _ _ _ _ 39 (0, 0) G9.out]; rfl
 have l9 := zA4 G9.out
 clear hB9
 simp only [Z39]
 go_wp2
 first | go_quiet (fail) | skip
 first | go_wp2 | skip
 go_ret
 have hBz := HB9.out.alloc HB9.out.size (.cells #[.int .i64 0, .int .i64 0, .int .i64 0, .int .i64 0, .slice none 0 0, .slice none 0 0, .slice none 0 0, .slice none 0 0] 39)
 exact ⟨rfl, hBz.os, hBz.tape, hBz.output, hBz.size, hBz.block⟩
end
end Go.Proofs.YtocoimjhglackaaGreat
