/- Tick. -/
import Derived.Test.YtcdbkieimkcogaaLc
namespace Go.Proofs.Ytcdbkieimkcogaa
open Go.RowKit
variable {D : Nat}

theorem cell_news (w : World) (cs : Array Value) (ty : TypeId) (j : Nat) (u : Value) (h : cs.toList[j]? = some u) : (w.alloc (.cells cs ty)).cell? ((⟨w.heap.size, 0, none⟩ : Addr).add j) = some u := by
  rw [Addr.add_lit]
  simp only [Nat.zero_add]
  rw [Array.getElem?_toList] at h
  rw [cell_of_row (w.alloc (.cells cs ty)) w.heap.size j cs ty (0, 0) (heap_alloc_new w _)]
  exact h
structure IfR (e : TypeId) (sz bytes : Nat) : Prop where
  ex : ∃ (i : TypeInfo) (z : Value), Try.prog.info? e = some i ∧ i.zero = some z ∧ i.size = sz ∧ i.bytes = bytes ∧ z.cells.size = sz
theorem IfR.of {e : TypeId} {z : Value} {sz bytes : Nat} (h : (Try.prog.info? e).map (fun i => (i.zero, i.size, i.bytes)) = some (some z, sz, bytes)) (hz : z.cells.size = sz) : IfR e sz bytes := by
  obtain ⟨i, h1, h2, h3, h4⟩ := info_parts h
  exact ⟨i, z, h1, h2, h3, h4, hz⟩
theorem if60 : IfR 60 27 304 := IfR.of (z := .agg zC) (by kernel_rfl) rfl
theorem wpList_appR {α : Type} {f : α → Array Value} {ops : Array Oper} {rest : List Oper} {o : Oper} {a : Act} {Q : Exit → Act → World → Prop} (w : World) (hgd : o.guard = none) (s x : Operand) (t : TypeId)
    (ho : o.op = .call { callee := .builtin .append, args := #[s, x], argTypes := #[t, t] }) (lo e sz bytes : Nat) (ht : Try.prog.underlying t = some (.slice e)) (hI : IfR e sz bytes) (hsz : 0 < sz) (hf : ∀ x, (f x).size = sz)
    (v : Value) (R : List α) (hs : a.eval s = v) (h : OwR lo e sz f w v R) (c : α) (ad : Addr) (cp : Nat) (hx : a.eval x = .slice (some ad) 1 cp)
    (hnews : ∀ j u, (f c).toList[j]? = some u → w.cell? (ad.add j) = some u) (h1 : ∀ u ∈ (f c).toList, u.oneCell' = true)
    (h63 : R.length + 1 ≤ maxLen) (hb : (R.length + 1) * bytes ≤ 140737488355328) (hlo : lo ≤ w.heap.size)
    (hK : ∀ v' w', OwR lo e sz f w' v' (R ++ [c]) → w.grownBy w' v.ownBlock → (v'.ownBlock = v.ownBlock ∨ v'.ownBlock = some w.heap.size) → wpList Try.prog ops Q rest (a.put o.dst v') w') :
    wpList Try.prog ops Q (o :: rest) a w := by
  obtain ⟨i, z, i1, i2, i3, i4, i5⟩ := hI.ex
  refine wpList_plain hgd fun K' hK' => ?_
  obtain ⟨v', w', hr, h2, h3, _, h4⟩ := run_append_own_at (P := Try.prog) w lo t o.type e i z sz bytes ht i1 i2 i3 i4 i5 hsz v R.length (rows f R) h ad 1 cp (f c).toList (by simp [hf]) hnews h1 h63 hb hlo
  unfold Oper.wp execOp
  simp only [ho, resolve, invoke, builtin, Sem.run_bind, Sem.run_pure, Result.andThen_ok, List.map_toArray, List.map_cons, List.map_nil, hs, hx, hr]
  refine hK' _ _ (hK v' w' ?_ h3 h4)
  unfold OwR
  rw [rows_snoc, List.length_append, List.length_singleton]
  exact h2

theorem OwR.mono {lo lo' ty s : Nat} {α : Type} {f : α → Array Value} {w : World} {v : Value} {R : List α} (h : OwR lo ty s f w v R) (hl : lo' ≤ lo) : OwR lo' ty s f w v R := by
  refine ⟨h.1, ?_⟩
  rcases h.2 with h2 | ⟨g, cap, cur, rfl, h3, h4, h5⟩
  · exact .inl h2
  · exact .inr ⟨g, cap, cur, rfl, Nat.le_trans hl h3, h4, h5⟩
def nSg (n : Nd) : Sg := ⟨1, n.id, n.ep, n.sq⟩
def dSg (d : Dp) : Sg := ⟨2, d.jb, d.vr, d.ix⟩
abbrev Ac := Mp × List Cm
def stN (mo : Mp) (s : Ac) (n : Nd) : Ac := if n.up then (dueN mo s.1 (nSg n) 20, if dueB mo s.1 (nSg n) 20 then s.2 ++ [dnC n] else s.2) else s
def stD (mo : Mp) (s : Ac) (d : Dp) : Ac := if d.st = 1 then (dueN mo s.1 (dSg d) 40, if dueB mo s.1 (dSg d) 40 then s.2 ++ [rvC d] else s.2) else s
def fN (mo : Mp) (L : List Nd) : Ac := L.foldl (stN mo) (fun _ => none, [])
def tkM (mo : Mp) (L : List Nd) (P : List Dp) : Ac := P.foldl (stD mo) (fN mo L)
def fD (mo : Mp) (L : List Nd) (P : List Dp) : Ac := P.foldl (stD mo) (fN mo L)
/- all clocks stand below their ends -/
def Okm (m : Mp) : Prop := ∀ k v, m k = some v → 0 ≤ v ∧ ((k.kd = 1 ∧ v < 20) ∨ (k.kd = 2 ∧ v < 40))
theorem Okm.small {m : Mp} (h : Okm m) (k : Sg) : ∀ v, m k = some v → 0 ≤ v ∧ v < 100 := fun v hv => by
  obtain ⟨h1, h2⟩ := h k v hv
  omega
theorem foldl_take {α β : Type} (f : β → α → β) (b : β) {L : List α} {k : Nat} {x : α} (h : L[k]? = some x) : (L.take (k + 1)).foldl f b = f ((L.take k).foldl f b) x := by
  rw [List.take_add_one, h]; simp [List.foldl_append]
theorem fN_len (mo : Mp) : ∀ (L : List Nd) (s : Ac), (L.foldl (stN mo) s).2.length ≤ s.2.length + L.length
  | [], s => by simp
  | n :: L, s => by
    have h := fN_len mo L (stN mo s n)
    have h2 : (stN mo s n).2.length ≤ s.2.length + 1 := by
      unfold stN
      by_cases h : n.up = true <;> simp [h]
      by_cases h' : dueB mo s.1 (nSg n) 20 = true <;> simp [h']
    simp only [List.foldl_cons, List.length_cons]; omega
theorem fD_len (mo : Mp) : ∀ (L : List Dp) (s : Ac), (L.foldl (stD mo) s).2.length ≤ s.2.length + L.length
  | [], s => by simp
  | n :: L, s => by
    have h := fD_len mo L (stD mo s n)
    have h2 : (stD mo s n).2.length ≤ s.2.length + 1 := by
      unfold stD
      by_cases h : n.st = 1 <;> simp [h]
      by_cases h' : dueB mo s.1 (dSg n) 40 = true <;> simp [h']
    simp only [List.foldl_cons, List.length_cons]; omega
theorem cm_one (c : Cm) : ∀ u ∈ (cmC c).toList, u.oneCell' = true := by
  have h := cm_all c
  rw [Array.all_eq_true'] at h
  intro u hu
  exact h u (by simpa using hu)

set_option maxHeartbeats 8000000 in
set_option maxRecDepth 100000 in
theorem tick_any (p mb : Nat) (mo : Mp) (L : List Nd) (P : List Dp) (a7 : Option Addr) (c7 : Nat) (a8 : Option Addr) (c8 : Nat) (w : World) (h : LfR D w p mb mo) (hm : Okm mo) (hL : NdR D w a7 L) (hP : DpR D w a8 P) (_hLn : L.length ≤ maxLen) (hPn : P.length ≤ maxLen) (hN : (L.length + P.length) * 304 ≤ 140737488355328) :
    Calls Try.prog 11 #[ptr p, .agg #[.int .i64 0, .int .i64 0, .slice none 0 0, .slice none 0 0, .slice a7 L.length c7, .slice none 0 0, .slice none 0 0, .slice a8 P.length c8, .slice none 0 0]] w fun e w' => ∃ v mb', e = .returned v ∧ LfR D w' p mb' (tkM mo L P).1 ∧ OwR w.heap.size 60 27 cmC w' v (tkM mo L P).2 ∧ FrT D [65] w w' := by
  have hmm := @run_makeMap Try.prog
  have HIF := hidOf if60
  have HL := hidOf h
  have HM := hidOf hm
  have HNd := hidOf hL
  have HDp := hidOf hP
  unfold maxLen at hPn
  have hpl := heap_lt h.blk
  have hml := h.mp.lt
  have HDW : Hid (D ≤ w.heap.size) := hidOf (by have := h.lo; omega)
  clear h hm hL hP
  unfold ptr
  go_enter Try.func11, Try.ntmps11
  go_wp2
  obtain ⟨W, hW⟩ : ∃ y, y = (w.alloc (.cells #[.int .i64 0, .int .i64 0, .slice none 0 0, .slice none 0 0, .slice a7 L.length c7, .slice none 0 0, .slice none 0 0, .slice a8 P.length c8, .slice none 0 0] 38)).alloc (.map #[] 0) := ⟨_, rfl⟩
  rw [← hW]
  have HW0 : Hid (Below w.heap.size w W) := hidOf (by rw [hW]; exact (below1 w _).trans ((below1 _ _).mono (by simp)))
  have HWz : Hid (W.heap.size = w.heap.size + 2) := hidOf (by rw [hW]; simp)
  have HWm : Hid (MpR W (w.heap.size + 1) kS (vI (fun _ => none))) := hidOf (by rw [hW]; have := MpR.new (w.alloc (.cells #[.int .i64 0, .int .i64 0, .slice none 0 0, .slice none 0 0, .slice a7 L.length c7, .slice none 0 0, .slice none 0 0, .slice a8 P.length c8, .slice none 0 0] 38)) kS; rw [World.size_alloc] at this; exact this)
  have HWb : Hid (W.heap[w.heap.size]? = some (.cells #[.int .i64 0, .int .i64 0, .slice none 0 0, .slice none 0 0, .slice a7 L.length c7, .slice none 0 0, .slice none 0 0, .slice a8 P.length c8, .slice none 0 0] 38 (0, 0))) := hidOf (by rw [hW]; exact ((below1 _ _).block _ (by simp)).trans (heap_alloc_new w _))
  clear hW
  go_loopw [5, 15] (fun o i wr => ∃ (k : Nat) (v : Value), k ≤ L.length ∧ i = .int .i64 (k : Int) ∧ o = v ∧ Hid (MpR wr (w.heap.size + 1) kS (vI (fN mo (L.take k)).1)) ∧ Hid (OwR (w.heap.size + 2) 60 27 cmC wr v (fN mo (L.take k)).2) ∧ Hid (Below (w.heap.size + 1) W wr) ∧ w.heap.size + 2 ≤ wr.heap.size) (fun _ i _ => L.length - (intOf i).toNat)
  case atStart => exact ⟨0, _, Nat.zero_le _, rfl, rfl, HWm, hidOf OwR.nil, hidOf (Below.refl _ _), by have := HWz.out; omega⟩
  case round =>
    obtain ⟨k, v, hk, rfl, rfl, HMk, HOk, HBk, hsz⟩ := hrel
    by_cases hlt : k < L.length
    · have hltz : (k : Int) < (L.length : Int) := by omega
      obtain ⟨x, hx⟩ : ∃ x, L[k]? = some x := ⟨L[k], List.getElem?_eq_getElem hlt⟩
      have HBw : Hid (Below w.heap.size w wr) := hidOf (HW0.out.trans (HBk.out.mono (by have := HWz.out; omega)))
      obtain ⟨b, off, rfl, hbl, x0, x1, x2, x3, x4, x5, x6, x7⟩ := nd_at (HNd.out.grow HBw.out) hx
      have HFT : Hid (fN mo (L.take (k + 1)) = stN mo (fN mo (L.take k)) x) := hidOf (foldl_take _ _ hx)
      have hflen : (fN mo (L.take k)).2.length ≤ k := by have := fN_len mo (L.take k) (fun _ => none, []); simp at this; exact Nat.le_trans this (Nat.min_le_left _ _)
      have HB1 := hidOf (below1 wr (.cells (ndC x) 52))
      have HQ1 := hidOf (heap_alloc_new wr (.cells (ndC x) 52))
      clear hx
      cases hup : x.up with
      | false =>
        rw [hup] at x3
        have HE : Hid (stN mo (fN mo (L.take k)) x = fN mo (L.take k)) := hidOf (by unfold stN; simp [hup])
        have HQ1' : Hid ((wr.alloc (.cells #[.int .i64 x.id, .int .i64 x.c1, .int .i64 x.c2, .bool false, .bool x.dr, .int .i64 x.bt, .int .i64 x.ep, .int .i64 x.sq] 52)).heap[wr.heap.size]? = some (.cells #[.int .i64 x.id, .int .i64 x.c1, .int .i64 x.c2, .bool false, .bool x.dr, .int .i64 x.bt, .int .i64 x.ep, .int .i64 x.sq] 52 (0, 0))) := hidOf (heap_alloc_new wr _)
        have HB1' := hidOf (below1 wr (.cells #[.int .i64 x.id, .int .i64 x.c1, .int .i64 x.c2, .bool false, .bool x.dr, .int .i64 x.bt, .int .i64 x.ep, .int .i64 x.sq] 52))
        clear hup
        go_wp2
        go_roundw
        case rel => exact ⟨k + 1, _, by omega, by go_num, rfl, hidOf (by rw [HFT.out, HE.out]; exact HMk.out.keep (HB1'.out.block _ HMk.out.lt)), hidOf (by rw [HFT.out, HE.out]; exact HOk.out.grow HB1'.out), hidOf (HBk.out.trans (HB1'.out.mono (by omega))), by simp; omega⟩
        case measure => simp [intOf]; omega
      | true =>
        rw [hup] at x3
        have HQ1' : Hid ((wr.alloc (.cells #[.int .i64 x.id, .int .i64 x.c1, .int .i64 x.c2, .bool true, .bool x.dr, .int .i64 x.bt, .int .i64 x.ep, .int .i64 x.sq] 52)).heap[wr.heap.size]? = some (.cells #[.int .i64 x.id, .int .i64 x.c1, .int .i64 x.c2, .bool true, .bool x.dr, .int .i64 x.bt, .int .i64 x.ep, .int .i64 x.sq] 52 (0, 0))) := hidOf (heap_alloc_new wr _)
        have HB1' := hidOf (below1 wr (.cells #[.int .i64 x.id, .int .i64 x.c1, .int .i64 x.c2, .bool true, .bool x.dr, .int .i64 x.bt, .int .i64 x.ep, .int .i64 x.sq] 52))
        have HBW1 : Hid (Below w.heap.size w (wr.alloc (.cells #[.int .i64 x.id, .int .i64 x.c1, .int .i64 x.c2, .bool true, .bool x.dr, .int .i64 x.bt, .int .i64 x.ep, .int .i64 x.sq] 52))) := hidOf (HBw.out.trans (HB1'.out.mono (by have := HBw.out.size; omega)))
        have HNM : Hid (w.heap.size + 1 ≠ mb) := hidOf (by omega)
        have HNX : Hid (ndC x = #[.int .i64 x.id, .int .i64 x.c1, .int .i64 x.c2, .bool true, .bool x.dr, .int .i64 x.bt, .int .i64 x.ep, .int .i64 x.sq]) := hidOf (by unfold ndC; rw [hup])
        cases hdb : dueB mo (fN mo (L.take k)).1 (nSg x) 20 with
        | false =>
          have HDB := hidOf hdb
          have HE : Hid (stN mo (fN mo (L.take k)) x = (dueN mo (fN mo (L.take k)).1 (nSg x) 20, (fN mo (L.take k)).2)) := hidOf (by unfold stN; simp [hup, hdb])
          clear hup hdb
          go_wp2_with (go_at_call 15; refine (due_any p mb (w.heap.size + 1) mo (fN mo (L.take k)).1 (nSg x) 20 _ (HL.out.grow HBW1.out) (HMk.out.keep (HB1'.out.block _ HMk.out.lt)) HNM.out (HM.out.small _) (by decide)).mono ?_; rintro r w2 ⟨rfl, hm2, hg2⟩; rw [HDB.out]; have HM2 := hidOf hm2; have HG2 := hidOf hg2; have HQ2 := hidOf ((hg2.block _ (by simp) (by simp; omega)).trans HQ1'.out); have HZ2 : Hid (wr.heap.size + 1 ≤ w2.heap.size) := hidOf (by have := hg2.size; simpa using this); clear hm2 hg2)
          go_roundw
          case rel => exact ⟨k + 1, _, by omega, by go_num, rfl, hidOf (by rw [HFT.out, HE.out]; exact HM2.out), hidOf (by rw [HFT.out, HE.out]; exact (HOk.out.grow HB1'.out).gb HG2.out (fun q hq e => by cases hq; have := HOk.out.lo _ e; omega)), hidOf ((HBk.out.trans (HB1'.out.mono (by omega))).grown HG2.out (by simp; omega) (fun q hq => by cases hq; omega)), by have := HZ2.out; omega⟩
          case measure => simp [intOf]; omega
        | true =>
          have HDB := hidOf hdb
          have HE : Hid (stN mo (fN mo (L.take k)) x = (dueN mo (fN mo (L.take k)).1 (nSg x) 20, (fN mo (L.take k)).2 ++ [dnC x])) := hidOf (by unfold stN; simp [hup, hdb])
          have HDN := hidOf (down_any x)
          rw [HNX.out] at HDN
          simp only [cmC, dnC] at HDN
          clear hup hdb
          go_wp2_with (first
            | (go_at_call 15; refine (due_any p mb (w.heap.size + 1) mo (fN mo (L.take k)).1 (nSg x) 20 _ (HL.out.grow HBW1.out) (HMk.out.keep (HB1'.out.block _ HMk.out.lt)) HNM.out (HM.out.small _) (by decide)).mono ?_; rintro r w2 ⟨rfl, hm2, hg2⟩; rw [HDB.out]; have HM2 := hidOf hm2; have HG2 := hidOf hg2; have HQ2 := hidOf ((hg2.block _ (by simp) (by simp; omega)).trans HQ1'.out); have HZ2 : Hid (wr.heap.size + 1 ≤ w2.heap.size) := hidOf (by have := hg2.size; simpa using this); have q := cell_of_row w2 wr.heap.size; have u0 := (q 0 _ 52 (0, 0) HQ2.out).trans rfl; clear q; clear hm2 hg2)
            | (refine wpList_load_row rfl 52 (.tmp 8) rfl wr.heap.size rfl 52 #[.int .i64 x.id, .int .i64 x.c1, .int .i64 x.c2, .bool true, .bool x.dr, .int .i64 x.bt, .int .i64 x.ep, .int .i64 x.sq] (0, 0) _ HQ2.out Try.underlying52 rfl (by kernel_rfl) ?_)
            | (go_at_call 16; refine (HDN.out _).mono ?_; rintro e w3 ⟨rfl, hb3⟩; have HB3 := hidOf hb3; clear hb3)
            | (at_builtin; go_loud (refine wpList_appR _ rfl _ _ 41 rfl (w.heap.size + 2) 60 27 304 Try.underlying41 HIF.out (by decide) cm_size u5 (fN mo (L.take k)).2 rfl ((((HOk.out.grow HB1'.out).gb HG2.out (fun q hq e => by cases hq; have := HOk.out.lo _ e; omega)).grow HB3.out).grow (below1 _ _)) (dnC x) ⟨w3.heap.size, 0, none⟩ 1 rfl (fun j u hj => cell_news w3 (cmC (dnC x)) 60 j u hj) (cm_one _) (by unfold maxLen; omega) (by omega) (by have := HZ2.out; have := HB3.out.size; simp; omega) ?_; intro v5 w5 ho5 hg5 hv5; have HO5 := hidOf ho5; have HG5 := hidOf hg5; clear ho5 hg5 hv5)))
          have hsb := HB3.out.size
          have hsg := HG5.out.size
          have hne5 : ∀ q, u5.ownBlock = some q → w.heap.size + 2 ≤ q := HOk.out.lo
          go_roundw
          case rel => exact ⟨k + 1, _, by omega, by go_num, rfl, hidOf (by rw [HFT.out, HE.out]; exact ((HM2.out.keep (HB3.out.block _ HM2.out.lt)).keep ((below1 _ _).block _ (by have := HM2.out.lt; have := HB3.out.size; omega))).keep (HG5.out.block _ (by have := HM2.out.lt; simp; omega) (fun e => by have := hne5 _ e.symm; omega))), hidOf (by rw [HFT.out, HE.out]; exact HO5.out), hidOf (((((HBk.out.trans (HB1'.out.mono (by omega))).grown HG2.out (by simp; omega) (fun q hq => by cases hq; omega)).trans (HB3.out.mono (by have := HZ2.out; omega))).trans ((below1 _ _).mono (by have := HZ2.out; omega))).grown HG5.out (by have := HZ2.out; simp; omega) (fun q hq => by have := hne5 q hq; omega)), by have := HZ2.out; simp at hsg; omega⟩
          case measure => simp [intOf]; omega
    · obtain rfl : k = L.length := by omega
      have hltz : ¬ (L.length : Int) < (L.length : Int) := by omega
      have HXB := hidOf ((HBk.out.block w.heap.size (by omega)).trans HWb.out)
      have y7 : wr.cell? ⟨w.heap.size, 7, none⟩ = some (.slice a8 P.length c8) := by rw [cell_of_row _ _ 7 _ 38 (0, 0) HXB.out]; rfl
      have HBw : Hid (Below w.heap.size w wr) := hidOf (HW0.out.trans (HBk.out.mono (by have := HWz.out; omega)))
      have HMx : Hid (MpR wr (w.heap.size + 1) kS (vI (fN mo L).1)) := hidOf (by have := HMk.out; rw [List.take_length] at this; exact this)
      have HOx : Hid (OwR (w.heap.size + 2) 60 27 cmC wr u5 (fN mo L).2) := hidOf (by have := HOk.out; rw [List.take_length] at this; exact this)
      clear HMk HOk HXB hltz
      have hfl0 : (fN mo L).2.length ≤ L.length := by have := fN_len mo L (fun _ => none, []); simp at this; exact this
      go_wp2
      obtain ⟨wq, hwq⟩ : ∃ y, y = wr := ⟨_, rfl⟩
      subst hwq
      go_loopw [5, 42] (fun o i w5 => ∃ (k : Nat) (v : Value), k ≤ P.length ∧ i = .int .i64 (k : Int) ∧ o = v ∧ Hid (MpR w5 (w.heap.size + 1) kS (vI (fD mo L (P.take k)).1)) ∧ Hid (OwR (w.heap.size + 2) 60 27 cmC w5 v (fD mo L (P.take k)).2) ∧ Hid (Below (w.heap.size + 1) wq w5) ∧ w.heap.size + 2 ≤ w5.heap.size) (fun _ i _ => P.length - (intOf i).toNat)
      case atStart => exact ⟨0, _, Nat.zero_le _, rfl, rfl, HMx, HOx, hidOf (Below.refl _ _), by omega⟩
      case round =>
        obtain ⟨k, v, hk, rfl, rfl, HMk, HOk, HBk, hsz2⟩ := hrel
        by_cases hlt : k < P.length
        · have hltz : (k : Int) < (P.length : Int) := by omega
          obtain ⟨x, hx⟩ : ∃ x, P[k]? = some x := ⟨P[k], List.getElem?_eq_getElem hlt⟩
          have HBv : Hid (Below w.heap.size w wr) := hidOf (HBw.out.trans (HBk.out.mono (by omega)))
          obtain ⟨b, off, rfl, hbl, x0, x1, x2, x3⟩ := dp_at (HDp.out.grow HBv.out) hx
          have HFT : Hid (fD mo L (P.take (k + 1)) = stD mo (fD mo L (P.take k)) x) := hidOf (foldl_take _ _ hx)
          have hflen : (fD mo L (P.take k)).2.length ≤ L.length + k := by have := fD_len mo (P.take k) (fN mo L); have h9 : (P.take k).length ≤ k := (by rw [List.length_take]; exact Nat.min_le_left _ _); unfold fD; omega
          clear hx
          by_cases hst : x.st = 1
          · rw [hst] at x2
            have HQ1' : Hid ((wr.alloc (.cells #[.int .i64 x.jb, .int .i64 x.vr, .int .i64 1, .int .i64 x.ix] 71)).heap[wr.heap.size]? = some (.cells #[.int .i64 x.jb, .int .i64 x.vr, .int .i64 1, .int .i64 x.ix] 71 (0, 0))) := hidOf (heap_alloc_new wr _)
            have HB1' := hidOf (below1 wr (.cells #[.int .i64 x.jb, .int .i64 x.vr, .int .i64 1, .int .i64 x.ix] 71))
            have HBW1 : Hid (Below w.heap.size w (wr.alloc (.cells #[.int .i64 x.jb, .int .i64 x.vr, .int .i64 1, .int .i64 x.ix] 71))) := hidOf (HBv.out.trans (HB1'.out.mono (by have := HBv.out.size; omega)))
            have HNM : Hid (w.heap.size + 1 ≠ mb) := hidOf (by omega)
            have HNX : Hid (dpC x = #[.int .i64 x.jb, .int .i64 x.vr, .int .i64 1, .int .i64 x.ix]) := hidOf (by unfold dpC; rw [hst])
            cases hdb : dueB mo (fD mo L (P.take k)).1 (dSg x) 40 with
            | false =>
              have HDB := hidOf hdb
              have HE : Hid (stD mo (fD mo L (P.take k)) x = (dueN mo (fD mo L (P.take k)).1 (dSg x) 40, (fD mo L (P.take k)).2)) := hidOf (by unfold stD; simp [hst, hdb])
              clear hst hdb
              go_wp2_with (go_at_call 15; refine (due_any p mb (w.heap.size + 1) mo (fD mo L (P.take k)).1 (dSg x) 40 _ (HL.out.grow HBW1.out) (HMk.out.keep (HB1'.out.block _ HMk.out.lt)) HNM.out (HM.out.small _) (by decide)).mono ?_; rintro r w2 ⟨rfl, hm2, hg2⟩; rw [HDB.out]; have HM2 := hidOf hm2; have HG2 := hidOf hg2; have HQ2 := hidOf ((hg2.block _ (by simp) (by simp; omega)).trans HQ1'.out); have HZ2 : Hid (wr.heap.size + 1 ≤ w2.heap.size) := hidOf (by have := hg2.size; simpa using this); clear hm2 hg2)
              go_roundw
              case rel => exact ⟨k + 1, _, by omega, by go_num, rfl, hidOf (by rw [HFT.out, HE.out]; exact HM2.out), hidOf (by rw [HFT.out, HE.out]; exact (HOk.out.grow HB1'.out).gb HG2.out (fun q hq e => by cases hq; have := HOk.out.lo _ e; omega)), hidOf ((HBk.out.trans (HB1'.out.mono (by omega))).grown HG2.out (by simp; omega) (fun q hq => by cases hq; omega)), by have := HZ2.out; omega⟩
              case measure => simp [intOf]; omega
            | true =>
              have HDB := hidOf hdb
              have HE : Hid (stD mo (fD mo L (P.take k)) x = (dueN mo (fD mo L (P.take k)).1 (dSg x) 40, (fD mo L (P.take k)).2 ++ [rvC x])) := hidOf (by unfold stD; simp [hst, hdb])
              have HDN := hidOf (revert_any x)
              rw [HNX.out] at HDN
              simp only [cmC, rvC] at HDN
              clear hst hdb
              go_wp2_with (first
                | (go_at_call 15; refine (due_any p mb (w.heap.size + 1) mo (fD mo L (P.take k)).1 (dSg x) 40 _ (HL.out.grow HBW1.out) (HMk.out.keep (HB1'.out.block _ HMk.out.lt)) HNM.out (HM.out.small _) (by decide)).mono ?_; rintro r w2 ⟨rfl, hm2, hg2⟩; rw [HDB.out]; have HM2 := hidOf hm2; have HG2 := hidOf hg2; have HQ2 := hidOf ((hg2.block _ (by simp) (by simp; omega)).trans HQ1'.out); have HZ2 : Hid (wr.heap.size + 1 ≤ w2.heap.size) := hidOf (by have := hg2.size; simpa using this); have q := cell_of_row w2 wr.heap.size; have u0 := (q 0 _ 71 (0, 0) HQ2.out).trans rfl; clear q; clear hm2 hg2)
                | (refine wpList_load_row rfl 71 (.tmp 10) rfl wr.heap.size rfl 71 #[.int .i64 x.jb, .int .i64 x.vr, .int .i64 1, .int .i64 x.ix] (0, 0) _ HQ2.out Try.underlying71 rfl (by kernel_rfl) ?_)
                | (go_at_call 17; refine (HDN.out _).mono ?_; rintro e w3 ⟨rfl, hb3⟩; have HB3 := hidOf hb3; clear hb3)
                | (at_builtin; refine wpList_appR _ rfl _ _ 41 rfl (w.heap.size + 2) 60 27 304 Try.underlying41 HIF.out (by decide) cm_size u5 (fD mo L (P.take k)).2 rfl ((((HOk.out.grow HB1'.out).gb HG2.out (fun q hq e => by cases hq; have := HOk.out.lo _ e; omega)).grow HB3.out).grow (below1 _ _)) (rvC x) ⟨w3.heap.size, 0, none⟩ 1 rfl (fun j u hj => cell_news w3 (cmC (rvC x)) 60 j u hj) (cm_one _) (by unfold maxLen; omega) (by omega) (by have := HZ2.out; have := HB3.out.size; simp; omega) ?_; intro v5 w5 ho5 hg5 hv5; have HO5 := hidOf ho5; have HG5 := hidOf hg5; clear ho5 hg5 hv5))
              have hsb := HB3.out.size
              have hsg := HG5.out.size
              have hne5 : ∀ q, u5.ownBlock = some q → w.heap.size + 2 ≤ q := HOk.out.lo
              go_roundw
              case rel => exact ⟨k + 1, _, by omega, by go_num, rfl, hidOf (by rw [HFT.out, HE.out]; exact ((HM2.out.keep (HB3.out.block _ HM2.out.lt)).keep ((below1 _ _).block _ (by have := HM2.out.lt; have := HB3.out.size; omega))).keep (HG5.out.block _ (by have := HM2.out.lt; simp; omega) (fun e => by have := hne5 _ e.symm; omega))), hidOf (by rw [HFT.out, HE.out]; exact HO5.out), hidOf (((((HBk.out.trans (HB1'.out.mono (by omega))).grown HG2.out (by simp; omega) (fun q hq => by cases hq; omega)).trans (HB3.out.mono (by have := HZ2.out; omega))).trans ((below1 _ _).mono (by have := HZ2.out; omega))).grown HG5.out (by have := HZ2.out; simp; omega) (fun q hq => by have := hne5 q hq; omega)), by have := HZ2.out; simp at hsg; omega⟩
              case measure => simp [intOf]; omega
          · have hstb : (x.st == 1) = false := by simp [hst]
            have HE : Hid (stD mo (fD mo L (P.take k)) x = (fD mo L (P.take k))) := hidOf (by unfold stD; simp [hst])
            have HB1' := hidOf (below1 wr (.cells #[.int .i64 x.jb, .int .i64 x.vr, .int .i64 x.st, .int .i64 x.ix] 71))
            clear hst
            go_wp2
            go_roundw
            case rel => exact ⟨k + 1, _, by omega, by go_num, rfl, hidOf (by rw [HFT.out, HE.out]; exact HMk.out.keep (HB1'.out.block _ HMk.out.lt)), hidOf (by rw [HFT.out, HE.out]; exact HOk.out.grow HB1'.out), hidOf (HBk.out.trans (HB1'.out.mono (by omega))), by simp; omega⟩
            case measure => simp [intOf]; omega
        · obtain rfl : k = P.length := by omega
          have hltz : ¬ (P.length : Int) < (P.length : Int) := by omega
          have HBv : Hid (Below w.heap.size w wr) := hidOf (HBw.out.trans (HBk.out.mono (by omega)))
          have hLs := HL.out.grow HBv.out
          have c0 := hLs.cell
          have hpb := hLs.blk
          have fz : wr.frozen? ⟨p, 0, none⟩ = false := by simp [World.frozen?, hpb]
          have HLS := hidOf hLs
          clear hLs hpb
          go_wp2
          go_ret
          have hb := HLS.out.blk
          have hm := HMk.out
          have ho := HOk.out
          rw [List.take_length] at hm ho
          have h1 : LfR D (wr.setCell ⟨p, 0, none⟩ (.map (some (w.heap.size + 1)))) p (w.heap.size + 1) (tkM mo L P).1 := by
            refine ⟨?_, hm.keep (Below.heap_setCell _ ⟨p, 0, none⟩ _ _ (by simp; omega)), HL.out.lo, by have := HDW.out; omega⟩
            have := heap_setCell_same wr p 0 _ 65 (.map (some (w.heap.size + 1))) hb
            rw [this]; rfl
          exact ⟨u5, rfl, ⟨w.heap.size + 1, h1⟩, OwR.mono (OwR.keepT ho ((FrT.refl D [65] _).set hb (by decide) HL.out.lo 0 _) (by decide)) (by omega), (FrT.of_below HBv.out).set hb (by decide) HL.out.lo 0 _⟩
end Go.Proofs.Ytcdbkieimkcogaa
