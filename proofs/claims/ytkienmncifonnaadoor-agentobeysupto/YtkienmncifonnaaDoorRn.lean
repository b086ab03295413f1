/- Running. -/
import Derived.Test.YtkienmncifonnaaDoorKn
import Derived.Test.YtkienmncifonnaaDoorTb
import Derived.Deep.DeepMust
namespace Go.Proofs.YtkienmncifonnaaDoor
open Go.RowKit Go.Maps
variable {D : Nat} {w w' : World} {p : Nat} {s : Sg} {n c pd : Nat} {mv : Value} {G : Nat → Prop}

structure TkOk (T : TM) : Prop where
  ok : ∀ k a, T k = some a → a.al.id = k ∧ wf64 k
def rnO (T : TM) (k : Int) : List Al := if (getA T k).s = 2 then [(getA T k).al] else []
def runL (T : TM) (L : List Int) : List Al := L.flatMap (rnO T)
theorem runL_snoc (T : TM) (L : List Int) (k : Int) : runL T (L ++ [k]) = runL T L ++ rnO T k := by simp [runL]
theorem runL_len (T : TM) (L : List Int) : (runL T L).length ≤ L.length := by
  induction L with
  | nil => simp [runL]
  | cons k L ih =>
    have : (rnO T k).length ≤ 1 := by unfold rnO; split <;> simp
    simp only [runL, List.flatMap_cons, List.length_append, List.length_cons] at ih ⊢
    omega
theorem runL_mem {T : TM} {L : List Int} (hk : Kn T L) (x : Al) : x ∈ runL T L ↔ ∃ k a, T k = some a ∧ a.al = x ∧ a.s = 2 := by
  simp only [runL, List.mem_flatMap]
  constructor
  · rintro ⟨k, h1, h2⟩
    have := (hk.mem k).1 h1
    obtain ⟨a, ha⟩ := Option.isSome_iff_exists.1 this
    unfold rnO at h2
    rw [getA_some ha] at h2
    split at h2
    · rw [List.mem_singleton] at h2; subst h2; exact ⟨k, a, ha, rfl, ‹_›⟩
    · cases h2
  · rintro ⟨k, a, h1, rfl, h2⟩
    refine ⟨k, (hk.mem k).2 (by rw [h1]; rfl), ?_⟩
    unfold rnO
    rw [getA_some h1, if_pos h2]
    simp
theorem runL_ord {T : TM} {L : List Int} (hk : Kn T L) (ht : TkOk T) : (runL T L).Pairwise (fun x y => x.id < y.id) := by
  have hm := fun k (h : k ∈ L) => (hk.mem k).1 h
  have ho := hk.ord
  clear hk
  induction L with
  | nil => simp [runL]
  | cons k L ih =>
    rw [List.pairwise_cons] at ho
    have h1 := ih (fun k h => hm k (by simp [h])) ho.2
    show ((rnO T k) ++ runL T L).Pairwise _
    rw [List.pairwise_append]
    refine ⟨?_, h1, fun x hx y hy => ?_⟩
    · unfold rnO; split <;> simp
    · obtain ⟨a, ha⟩ := Option.isSome_iff_exists.1 (hm k (by simp))
      have ex : x = a.al := by
        unfold rnO at hx; rw [getA_some ha] at hx
        split at hx
        · exact List.mem_singleton.1 hx
        · cases hx
      simp only [runL, List.mem_flatMap] at hy
      obtain ⟨j, hj, hy⟩ := hy
      obtain ⟨b, hb⟩ := Option.isSome_iff_exists.1 (hm j (by simp [hj]))
      have ey : y = b.al := by
        unfold rnO at hy; rw [getA_some hb] at hy
        split at hy
        · exact List.mem_singleton.1 hy
        · cases hy
      rw [ex, ey, (ht.ok k a ha).1, (ht.ok j b hb).1]
      exact ho.1 j hj
def iC (k : Int) : Array Value := #[.int .i64 k]
theorem rows_iC (L : List Int) : rows iC L = L.map encZ := by
  induction L with
  | nil => rfl
  | cons k L ih => simp only [rows, List.flatMap_cons, List.map_cons] at ih ⊢; rw [ih]; rfl
theorem iC_size (k : Int) : (iC k).size = 1 := rfl
theorem if67 : IfR 67 11 88 := IfR.of (z := alV default) (by kernel_rfl) rfl
theorem OwR.blk {lo ty s : Nat} {α : Type} {f : α → Array Value} {w : World} {v : Value} {R : List α} (h : OwR lo ty s f w v R) : ∀ k, v.ownBlock = some k → ∃ cur, w.heap[k]? = some (.cells cur ty (0, 0)) := by
  intro k hk
  rcases h.2 with ⟨rfl, _⟩ | ⟨g, cap, cur, rfl, h3, h4, h5⟩
  · cases hk
  · cases hk; exact ⟨cur, h4⟩
/- what a row's growth leaves alone -/
theorem OwR.gKeepA {lo ty s : Nat} {α : Type} {f : α → Array Value} {w w' : World} {v : Value} {R : List α} (h : OwR lo ty s f w v R) (hg : w.grownBy w' v.ownBlock) (ht : ¬ (ty = 5 ∨ ty = 9 ∨ ty = 38 ∨ ty = 77 ∨ ty = 82 ∨ ty = 132)) : KeepA w w' :=
  ⟨hg.size, fun k o hk ho => hg.block k (heap_lt hk) (fun e => by
    obtain ⟨cur, hc⟩ := h.blk k e.symm
    rw [hc] at hk; cases hk; exact ht ho)⟩
theorem RdR.gr {lo ty s ty' s' : Nat} {α β : Type} {f : α → Array Value} {g : β → Array Value} {w w' : World} {v : Value} {R : List α} {a : Option Addr} {L : List β} (h : RdR D ty' s' g w a L) (ho : OwR lo ty s f w v R) (hg : w.grownBy w' v.ownBlock) (ht : ty' ≠ ty) (hD : D ≤ lo) : RdR D ty' s' g w' a L :=
  h.keepB hg.size (fun k hk hk2 => hg.block k hk2 (fun e => by have := ho.lo k e.symm; omega)) (fun k cs hk => hg.block k (heap_lt hk) (fun e => by
    obtain ⟨cur, hc⟩ := ho.blk k e.symm
    rw [hc] at hk; cases hk; exact ht rfl))
set_option maxHeartbeats 4000000 in
set_option maxRecDepth 100000 in
theorem running_any (h : AgS D w p s n c) (hn : n ≤ 1099511627776) (hok : TkOk s.T) :
    Calls Tryd.prog 10 #[.pointer (some ⟨p, 0, none⟩)] w fun e w' => ∃ (v : Value) (L : List Int), e = .returned v ∧ Kn s.T L ∧ OwR w.heap.size 67 11 alC w' v (runL s.T L) ∧ Below w.heap.size w w' ∧ L.length ≤ n := by
  have HK := hidOf (known_any h hn)
  have hD : D ≤ w.heap.size := by
    obtain ⟨pd, mv, G, h⟩ := h
    exact Nat.le_trans h.hp (Nat.le_of_lt h.b.lt)
  have HIF := hidOf if67
  obtain ⟨pd, mv, G, h⟩ := h
  have H := hidOf h
  have HOK := hidOf hok
  have hpl := h.b.lt
  clear h hok
  go_enter Tryd.func10, Tryd.ntmps10
  go_wp2_with (go_at_call 21; refine HK.out.mono ?_; rintro e w1 ⟨v, L, rfl, hkn, hrow, hln, hb⟩; have HKN := hidOf hkn; have HB1 := hidOf hb; have hrow2 : OwR w.heap.size 3 1 iC w1 v L := (by unfold OwR; rw [rows_iC]; exact hrow); obtain ⟨va, vc, hv, hrd⟩ := hrow2.rd (D := w.heap.size) iC_size; subst hv; have HRD := hidOf hrd; clear hkn hb hrow hrow2 hrd)
  have HA1 := hidOf (H.out.below HB1.out)
  obtain ⟨w0, hw0⟩ : ∃ y, y = w1 := ⟨_, rfl⟩
  subst hw0
  go_loopw [3, 10] (fun o i wr => ∃ (k : Nat) (v : Value), k ≤ L.length ∧ i = .int .i64 (k : Int) ∧ o = v ∧ Hid (OwR w.heap.size 67 11 alC wr v (runL s.T (L.take k))) ∧ Hid (RdR w.heap.size 3 1 iC wr va L) ∧ Hid (AgR D wr p s n c pd mv G) ∧ Hid (Below w.heap.size w wr)) (fun _ i _ => L.length - (intOf i).toNat)
  case atStart => exact ⟨0, _, Nat.zero_le _, rfl, rfl, hidOf (by simp only [List.take_zero, runL, List.flatMap_nil]; exact OwR.nil), HRD, HA1, HB1⟩
  case round =>
    obtain ⟨k, v, hk, rfl, rfl, HO, HR, HA, HB⟩ := hrel
    by_cases hlt : k < L.length
    · have hltz : (k : Int) < (L.length : Int) := by omega
      obtain ⟨x, hx⟩ : ∃ x, L[k]? = some x := ⟨_, List.getElem?_eq_getElem hlt⟩
      obtain ⟨b, off, hva, hbl, hcell⟩ := HR.out.at_ hx
      subst hva
      have ci : wr.cell? ⟨b, off + k, none⟩ = some (.int .i64 x) := by have := hcell 0 _ rfl; simpa [iC] using this
      obtain ⟨va, vc2, hv, _⟩ := HO.out.slice
      subst hv
      have c21 : wr.cell? ⟨p, 21, none⟩ = some mv := HA.out.b.at_ 21
      have lpr := HA.out.b.lt
      have hmem : x ∈ L := List.mem_of_getElem? hx
      have hso := (HKN.out.mem x).1 hmem
      obtain ⟨a0, ha0⟩ := Option.isSome_iff_exists.1 hso
      have hwf := (HOK.out.ok x a0 ha0).2
      obtain ⟨a, ha⟩ : ∃ a, a = getA s.T x := ⟨_, rfl⟩
      have hlk : (Instr.lookup 75 mv (.int .i64 x) false).run Tryd.prog wr = .ok (.agg #[.int .i64 a.al.id, .int .i64 a.al.jb, .int .i64 a.al.vr, .int .i64 a.al.gp, .int .i64 a.al.ix, .int .i64 a.al.nd, .int .i64 a.al.ep, .int .i64 a.al.c1, .int .i64 a.al.c2, .bool a.al.sp, .int .i64 a.al.st, .int .i64 a.s]) wr := by rw [HA.out.t.look hwf, ← ha]; rfl
      have HX := hidOf (show L.take (k + 1) = L.take k ++ [x] by rw [List.take_add_one, hx]; rfl)
      have HAa := hidOf ha
      have hrl := runL_len s.T (L.take k)
      have htk : (L.take k).length ≤ k := by rw [List.length_take]; omega
      have HB1 := hidOf (below1 wr (.cells #[.int .i64 a.al.id, .int .i64 a.al.jb, .int .i64 a.al.vr, .int .i64 a.al.gp, .int .i64 a.al.ix, .int .i64 a.al.nd, .int .i64 a.al.ep, .int .i64 a.al.c1, .int .i64 a.al.c2, .bool a.al.sp, .int .i64 a.al.st, .int .i64 a.s] 86))
      clear hx hcell hmem hso ha0 hwf ha
      by_cases hst : a.s = 2
      · have ed : decide (a.s = 2) = true := by simp [hst]
        have HE : Hid (runL s.T (L.take (k + 1)) = runL s.T (L.take k) ++ [a.al]) := hidOf (by rw [HX.out, runL_snoc]; unfold rnO; rw [← HAa.out, if_pos hst])
        clear hst
        go_wp2_with (first | (go_at_call 22; go_must (refine (runs_any a _).mono ?_; rintro e w2 ⟨rfl, hb2⟩; have HB2 := hidOf hb2; have HT2 : Hid (w2.heap[wr.heap.size]? = some (.cells (akC a) 86 (0, 0))) := hidOf ((hb2.block _ (by simp)).trans (heap_alloc_new wr _)); clear hb2; have y0 : w2.cell? ⟨wr.heap.size, 0, none⟩ = some (.int .i64 a.al.id) := (cell_of_row _ _ 0 _ 86 (0, 0) HT2.out).trans rfl; have y1 : w2.cell? ⟨wr.heap.size, 1, none⟩ = some (.int .i64 a.al.jb) := (cell_of_row _ _ 1 _ 86 (0, 0) HT2.out).trans rfl; have y2 : w2.cell? ⟨wr.heap.size, 2, none⟩ = some (.int .i64 a.al.vr) := (cell_of_row _ _ 2 _ 86 (0, 0) HT2.out).trans rfl; have y3 : w2.cell? ⟨wr.heap.size, 3, none⟩ = some (.int .i64 a.al.gp) := (cell_of_row _ _ 3 _ 86 (0, 0) HT2.out).trans rfl; have y4 : w2.cell? ⟨wr.heap.size, 4, none⟩ = some (.int .i64 a.al.ix) := (cell_of_row _ _ 4 _ 86 (0, 0) HT2.out).trans rfl; have y5 : w2.cell? ⟨wr.heap.size, 5, none⟩ = some (.int .i64 a.al.nd) := (cell_of_row _ _ 5 _ 86 (0, 0) HT2.out).trans rfl; have y6 : w2.cell? ⟨wr.heap.size, 6, none⟩ = some (.int .i64 a.al.ep) := (cell_of_row _ _ 6 _ 86 (0, 0) HT2.out).trans rfl; have y7 : w2.cell? ⟨wr.heap.size, 7, none⟩ = some (.int .i64 a.al.c1) := (cell_of_row _ _ 7 _ 86 (0, 0) HT2.out).trans rfl; have y8 : w2.cell? ⟨wr.heap.size, 8, none⟩ = some (.int .i64 a.al.c2) := (cell_of_row _ _ 8 _ 86 (0, 0) HT2.out).trans rfl; have y9 : w2.cell? ⟨wr.heap.size, 9, none⟩ = some (.bool a.al.sp) := (cell_of_row _ _ 9 _ 86 (0, 0) HT2.out).trans rfl; have y10 : w2.cell? ⟨wr.heap.size, 10, none⟩ = some (.int .i64 a.al.st) := (cell_of_row _ _ 10 _ 86 (0, 0) HT2.out).trans rfl; have y11 : w2.cell? ⟨wr.heap.size, 11, none⟩ = some (.int .i64 a.s) := (cell_of_row _ _ 11 _ 86 (0, 0) HT2.out).trans rfl)) | (at_builtin; go_loud (refine wpList_appR _ rfl _ _ 43 rfl w.heap.size 67 11 88 Tryd.underlying43 HIF.out (by decide) alC_size _ (runL s.T (L.take k)) rfl (((HO.out.grow HB1.out).grow (HB2.out)).grow (below1 _ _)) a.al ⟨w2.heap.size, 0, none⟩ 1 rfl (fun j u hj => cell_news _ (alC a.al) 67 j u hj) (al_one _) (by unfold maxLen; omega) (by omega) (by have := HB.out.size; have := HB2.out.size; have := HB1.out.size; simp at *; omega) ?_; intro v5 w5 ho5 hg5 hv5; have HO5 := hidOf ho5; have HG5 := hidOf hg5; clear ho5 hg5 hv5)))
        go_roundw
        case rel =>
          have HB3 := hidOf ((HB1.out.trans (HB2.out.mono HB1.out.size)).trans ((below1 w2 (.cells (alC a.al) 67)).mono (Nat.le_trans HB1.out.size HB2.out.size)))
          have HO3 := HO.out.grow HB3.out
          have hk5 := HO3.gKeepA HG5.out (by decide)
          exact ⟨k + 1, _, by omega, by go_num, rfl, hidOf (by rw [HE.out]; exact HO5.out), hidOf ((HR.out.grow HB3.out).gr HO3 HG5.out (by decide) (Nat.le_refl _)), hidOf ((HA.out.below HB3.out).keepA hk5), hidOf ((HB.out.trans (HB3.out.mono HB.out.size)).grown HG5.out (by have := HB.out.size; have := HB3.out.size; omega) (fun q hq => HO3.lo q hq))⟩
        case measure => simp [intOf]; omega
      · have ed : decide (a.s = 2) = false := by simp [hst]
        have HE : Hid (runL s.T (L.take (k + 1)) = runL s.T (L.take k)) := hidOf (by rw [HX.out, runL_snoc]; unfold rnO; rw [← HAa.out, if_neg hst, List.append_nil])
        clear hst
        go_wp2_with ((go_at_call 22; go_must (refine (runs_any a _).mono ?_; rintro e w2 ⟨rfl, hb2⟩; have HB2 := hidOf hb2; have HT2 : Hid (w2.heap[wr.heap.size]? = some (.cells (akC a) 86 (0, 0))) := hidOf ((hb2.block _ (by simp)).trans (heap_alloc_new wr _)); clear hb2; have y0 : w2.cell? ⟨wr.heap.size, 0, none⟩ = some (.int .i64 a.al.id) := (cell_of_row _ _ 0 _ 86 (0, 0) HT2.out).trans rfl; have y1 : w2.cell? ⟨wr.heap.size, 1, none⟩ = some (.int .i64 a.al.jb) := (cell_of_row _ _ 1 _ 86 (0, 0) HT2.out).trans rfl; have y2 : w2.cell? ⟨wr.heap.size, 2, none⟩ = some (.int .i64 a.al.vr) := (cell_of_row _ _ 2 _ 86 (0, 0) HT2.out).trans rfl; have y3 : w2.cell? ⟨wr.heap.size, 3, none⟩ = some (.int .i64 a.al.gp) := (cell_of_row _ _ 3 _ 86 (0, 0) HT2.out).trans rfl; have y4 : w2.cell? ⟨wr.heap.size, 4, none⟩ = some (.int .i64 a.al.ix) := (cell_of_row _ _ 4 _ 86 (0, 0) HT2.out).trans rfl; have y5 : w2.cell? ⟨wr.heap.size, 5, none⟩ = some (.int .i64 a.al.nd) := (cell_of_row _ _ 5 _ 86 (0, 0) HT2.out).trans rfl; have y6 : w2.cell? ⟨wr.heap.size, 6, none⟩ = some (.int .i64 a.al.ep) := (cell_of_row _ _ 6 _ 86 (0, 0) HT2.out).trans rfl; have y7 : w2.cell? ⟨wr.heap.size, 7, none⟩ = some (.int .i64 a.al.c1) := (cell_of_row _ _ 7 _ 86 (0, 0) HT2.out).trans rfl; have y8 : w2.cell? ⟨wr.heap.size, 8, none⟩ = some (.int .i64 a.al.c2) := (cell_of_row _ _ 8 _ 86 (0, 0) HT2.out).trans rfl; have y9 : w2.cell? ⟨wr.heap.size, 9, none⟩ = some (.bool a.al.sp) := (cell_of_row _ _ 9 _ 86 (0, 0) HT2.out).trans rfl; have y10 : w2.cell? ⟨wr.heap.size, 10, none⟩ = some (.int .i64 a.al.st) := (cell_of_row _ _ 10 _ 86 (0, 0) HT2.out).trans rfl; have y11 : w2.cell? ⟨wr.heap.size, 11, none⟩ = some (.int .i64 a.s) := (cell_of_row _ _ 11 _ 86 (0, 0) HT2.out).trans rfl)))
        go_roundw
        case rel =>
          have HB3 := hidOf (HB1.out.trans (HB2.out.mono HB1.out.size))
          exact ⟨k + 1, _, by omega, by go_num, rfl, hidOf (by rw [HE.out]; exact HO.out.grow HB3.out), hidOf (HR.out.grow HB3.out), hidOf (HA.out.below HB3.out), hidOf (HB.out.trans (HB3.out.mono HB.out.size))⟩
        case measure => simp [intOf]; omega
    · obtain rfl : k = L.length := by omega
      have hltz : ¬ (L.length : Int) < (L.length : Int) := by omega
      go_wp2
      go_ret
      exact ⟨_, rfl, L, HKN.out, by have := HO.out; rw [List.take_length] at this; exact this, HB.out, hln⟩
end Go.Proofs.YtkienmncifonnaaDoor
