/- HeapPlays, walked. -/
import Derived.Test.YtmkbndiliehdcaaHopo
import Derived.Test.YtmkbndiliehdcaaHrf3
import Derived.Test.YtmkbndiliehdcaaLpee
import Derived.SizedLaws
namespace Go.Proofs.Ytmkbndiliehdcaa
open Go.RowKit Go.Conc

open Go.ChangeShapes Go.WideShapes Go.ChangeAt in
theorem open_ops_sized {H : Type} {enc : TypeId × Value → H} {w : World} {a : Option Addr} {cap : Nat} {l : List It} {d : DataW H} {p : List MemPlace} {ts : List TypeId} {ds : List (DataW H)} (h : DataW.Trod enc Try.prog w 0 (fun _ => true) true 22 (.slice a l.length cap) d p) (hsz : (DataW.weightsEach Try.prog (22 :: ts) (d :: ds)).all (· ≤ reachBytes) = true) : l.length ≤ 5864062014634 := by
  obtain ⟨fuel, hf⟩ := h
  rcases DataW.trod_slice Try.underlying22 hf with ⟨e, _⟩ | ⟨a', len', cap', elems, rest, n, _, e, hx, _, hlc, hcm, hel, _⟩
  · simp [Value.cells] at e
    obtain ⟨_, e2, _⟩ := e
    rw [e2]
    simp
  · simp [Value.cells] at e
    have e1 : d = (Go.DataW.slice (elems.map (·.1)) (rest.map (·.1))) := congrArg Prod.fst hx
    have h2 := sized_slice hsz (j := 0) (t := 22) (e := 33) (elems := elems.map (·.1)) (spare := rest.map (·.1)) rfl (by rw [e1]; rfl) Try.underlying22
    rw [show Try.prog.bytesOf 33 = 24 from by kernel_rfl] at h2
    simp only [List.length_map, reachBytes] at h2
    have e3 := e.2.1
    omega
theorem RefR.types {w : World} {q : Nat} {M : List It} {r : Option Nat} (h : RefR w q M r) : (∃ cs, w.heap[q]? = some (.cells cs 30 (0, 0))) ∧ ∀ k, r = some k → ∃ cs, w.heap[k]? = some (.cells cs 26 (0, 0)) := by
  obtain ⟨v, h1, rfl, _, h3⟩ := h
  refine ⟨⟨_, h1⟩, fun k hk => ?_⟩
  rcases h3.2 with ⟨rfl, _⟩ | ⟨g, cap, cur, rfl, _, h4, _⟩
  · cases hk
  · cases hk; exact ⟨cur, h4⟩
/- both heaps -/
structure Pst (w wr : World) (M : List It) (n : Nat) (r rr : Option Nat) : Prop where
  heap : Hst w wr M n r
  ref : RefR wr (w.heap.size + 1) M rr
  own : ∀ k, rr = some k → w.heap.size ≤ k
theorem Pst.grow {w wr w' : World} {M : List It} {n : Nat} {r rr : Option Nat} (h : Pst w wr M n r rr) (hb : Below wr.heap.size wr w') : Pst w w' M n r rr := ⟨h.heap.grow hb, h.ref.grow hb, h.own⟩
/- the code's heap has done a step -/
theorem Pst.mid {w wr w' : World} {M M' : List It} {n n' : Nat} {r r' rr : Option Nat} (h : Pst w wr M n r rr) (h' : HeapR w' w.heap.size M' n' r') (hn : NS wr w' w.heap.size r r') : Hst w w' M' n' r' ∧ RefR w' (w.heap.size + 1) M rr := by
  refine ⟨h.heap.ns h' hn, ?_⟩
  obtain ⟨⟨cs, h1⟩, h2⟩ := h.ref.types
  refine h.ref.kept ((hn.other h.heap.1 h1 (by intro cs f; constructor <;> intro e <;> cases e)).trans h1.symm) (fun k hk => ?_)
  obtain ⟨cs', h3⟩ := h2 k hk
  exact (hn.other h.heap.1 h3 (by intro cs f; constructor <;> intro e <;> cases e)).trans h3.symm
/- the document's heap has done it too -/
theorem Pst.fin {w w' w2 : World} {M M' : List It} {n : Nat} {r rr rr' : Option Nat} (h : Hst w w' M' n r) (h0 : RefR w' (w.heap.size + 1) M rr) (hw : ∀ k, rr = some k → w.heap.size ≤ k) (h2 : RefR w2 (w.heap.size + 1) M' rr') (hn : NS w' w2 (w.heap.size + 1) rr rr') : Pst w w2 M' n r rr' := by
  obtain ⟨⟨cs, a1⟩, a2⟩ := h.1.types
  obtain ⟨⟨cs2, b1⟩, b2⟩ := h0.types
  have key : ∀ (k : Nat) (cs : Array Value) (ty : TypeId), w'.heap[k]? = some (.cells cs ty (0, 0)) → ty = 53 ∨ ty = 55 → w2.heap[k]? = w'.heap[k]? := by
    intro k cs ty hk ht
    refine hn.block k (heap_lt hk) (fun e => ?_) (fun e => ?_)
    · subst e
      injection Option.some.inj (hk.symm.trans b1) with _ e2
      rcases ht with rfl | rfl <;> exact absurd e2 (by decide)
    · obtain ⟨cs', h3⟩ := b2 k e.symm
      injection Option.some.inj (hk.symm.trans h3) with _ e2
      rcases ht with rfl | rfl <;> exact absurd e2 (by decide)
  refine ⟨⟨h.1.kept (key _ _ _ a1 (.inl rfl)) (fun k hk => ?_), h.2.1.trans (hn.below h.2.1.size (by omega) hw), h.2.2⟩, h2, hn.rowD h.2.1.size hw⟩
  obtain ⟨cs', h3⟩ := a2 k hk
  exact key _ _ _ h3 (.inr rfl)
theorem NS.of_rsq {a b : World} {q : Nat} {r r' : Option Nat} (h : RS a b q) (hr : ∀ k, r' = some k → a.heap.size ≤ k) : NS a b q r r ∧ (r' = none ∨ ∃ k, r' = some k ∧ a.heap.size ≤ k) := by
  refine ⟨⟨h.os, h.tape, h.output, h.size, fun k hk hq _ => h.block k hk hq, .inl rfl⟩, ?_⟩
  cases r' with
  | none => exact .inl rfl
  | some k => exact .inr ⟨k, rfl, hr k rfl⟩
theorem Pst.finS {w w' w2 : World} {M M' : List It} {n : Nat} {r rr rr' : Option Nat} (h : Hst w w' M' n r) (h0 : RefR w' (w.heap.size + 1) M rr) (_hw : ∀ k, rr = some k → w.heap.size ≤ k) (h2 : RefR w2 (w.heap.size + 1) M' rr') (hs : RS w' w2 (w.heap.size + 1)) (hr : ∀ k, rr' = some k → w'.heap.size ≤ k) : Pst w w2 M' n r rr' := by
  obtain ⟨⟨cs, a1⟩, a2⟩ := h.1.types
  obtain ⟨⟨cs2, b1⟩, _⟩ := h0.types
  have key : ∀ (k : Nat) (cs : Array Value) (ty : TypeId), w'.heap[k]? = some (.cells cs ty (0, 0)) → ty = 53 ∨ ty = 55 → w2.heap[k]? = w'.heap[k]? := by
    intro k cs ty hk ht
    refine hs.block k (heap_lt hk) (fun e => ?_)
    subst e
    injection Option.some.inj (hk.symm.trans b1) with _ e2
    rcases ht with rfl | rfl <;> exact absurd e2 (by decide)
  refine ⟨⟨h.1.kept (key _ _ _ a1 (.inl rfl)) (fun k hk => ?_), h.2.1.trans (hs.below h.2.1.size (by omega)), h.2.2⟩, h2, fun k hk => Nat.le_trans h.2.1.size (hr k hk)⟩
  obtain ⟨cs', h3⟩ := a2 k hk
  exact key _ _ _ h3 (.inr rfl)
theorem min_ex : ∀ (M : List It), M ≠ [] → ∃ m, MinOf M m := by
  intro M
  induction M with
  | nil => intro h; exact absurd rfl h
  | cons x T ih =>
    intro _
    by_cases hT : T = []
    · subst hT
      exact ⟨x, by simp, fun y hy => by rw [List.mem_singleton.1 hy]; exact le.refl _⟩
    · obtain ⟨m, h1, h2⟩ := ih hT
      by_cases hx : le x m
      · exact ⟨x, by simp, fun y hy => by
          rcases List.mem_cons.1 hy with e | e
          · rw [e]; exact le.refl _
          · exact hx.trans (h2 y e)⟩
      · refine ⟨m, by simp [h1], fun y hy => ?_⟩
        rcases List.mem_cons.1 hy with e | e
        · rw [e]; unfold le at hx ⊢; omega
        · exact h2 y e
theorem pst_new {w w1 : World} (hb : Below ((w.alloc (.cells #[.slice none 0 0, .int .i64 0] 53)).alloc (.cells #[.slice none 0 0] 30)).heap.size ((w.alloc (.cells #[.slice none 0 0, .int .i64 0] 53)).alloc (.cells #[.slice none 0 0] 30)) w1) : Pst w w1 [] 0 none none := by
  have h2 := (refR_new (w.alloc (.cells #[.slice none 0 0, .int .i64 0] 53))).grow hb
  rw [World.size_alloc] at h2
  refine ⟨⟨((heapR_new w).grow ((Below.refl _ _).alloc (Nat.le_refl _) _)).grow hb, (below2 w _ _).trans (hb.mono (by simp; omega)), fun k hk => by cases hk⟩, h2, fun k hk => by cases hk⟩

set_option maxHeartbeats 40000000 in
set_option maxRecDepth 100000 in
theorem lawPlays (w : World) (a : Option Addr) (cap : Nat) (l : List It) (hi : Stps w a l) (hl : l.length ≤ 5864062014634) : Calls Try.prog 3 #[.slice a l.length cap] w fun e w' => e = .returned (.bool true) ∧ Below w.heap.size w w' := by
  have HI := hidOf hi
  clear hi
  go_enter Try.func3, Try.ntmps3
  go_wp2_with (first
    | (go_at_call 8; refine (new_any _).mono ?_; rintro e w1 ⟨rfl, rfl⟩)
    | (go_at_call 9; refine (known_any _).mono ?_; rintro e w1 ⟨rfl, hb1⟩; have H1 := hidOf (pst_new hb1); clear hb1))
  go_loopw [5] (fun i wr => ∃ (k n : Nat) (M : List It) (r rr : Option Nat), i = .int .i64 (k : Int) ∧ k ≤ l.length ∧ n ≤ k ∧ Hid (Pst w wr M n r rr)) (fun i _ => l.length - (intOf i).toNat)
  case atStart => exact ⟨0, 0, [], none, none, rfl, Nat.zero_le _, Nat.le_refl _, H1⟩
  case round =>
    obtain ⟨k, n, M, r, rr, rfl, hk, hnk, H⟩ := hrel
    by_cases hlt : k < l.length
    · have hltz : (k : Int) < (l.length : Int) := by omega
      obtain ⟨b, off, hab, hbl, c0, c1, c2⟩ := HI.out.at H.out.heap.2.1 k hlt
      subst hab
      obtain ⟨x, hx⟩ : ∃ x, x = gt l k := ⟨_, rfl⟩
      rw [← hx] at c0 c1 c2
      obtain ⟨kd, ky, tg⟩ := x
      simp only at c0 c1 c2
      clear hx
      have H2 : ∀ o : Obj, Pst w (wr.alloc o) M n r rr := fun o => H.out.grow ((Below.refl _ _).alloc (Nat.le_refl _) o)
      have HX2 := hidOf H2
      clear H2
      by_cases hk0 : kd = 0
      · subst hk0
        go_wp2_with (first
          | (go_at_call 10; refine (push_any w.heap.size n M r ky tg _ (HX2.out _).heap.1 (by omega)).mono ?_; rintro e wp ⟨rfl, r1, h1, n1⟩; have HP1 := hidOf ((HX2.out _).mid h1 n1); have hxp : wp.heap[wr.heap.size]? = some (.cells #[.int .i64 0, .int .i64 ky, .int .i64 tg] 33 (0, 0)) := n1.other (HX2.out _).heap.1 (heap_alloc_new wr _) (by intro cs f; constructor <;> intro e <;> cases e); have u1 : wp.cell? ⟨wr.heap.size, 1, none⟩ = some (.int .i64 ky) := (by rw [cell_of_row wp _ 1 _ 33 (0, 0) hxp]; rfl); have u2 : wp.cell? ⟨wr.heap.size, 2, none⟩ = some (.int .i64 tg) := (by rw [cell_of_row wp _ 2 _ 33 (0, 0) hxp]; rfl); clear h1 n1 hxp)
          | (go_at_call 11; refine (rpush_any (w.heap.size + 1) M rr ky tg n _ HP1.out.2 (by have := H.out.heap.1.came.2; omega)).mono ?_; rintro e wq ⟨rfl, rr1, h2, n2⟩; have HP2 := hidOf (Pst.fin HP1.out.1 HP1.out.2 H.out.own h2 n2); obtain ⟨mm, hmm⟩ := HP2.out.heap.1.min (by simp); have HMM := hidOf hmm; clear h2 n2 hmm)
          | (go_at_call 16; refine (peek_min w.heap.size (n + 1) (M ++ [⟨ky, tg, n⟩]) mm r1 _ HP2.out.heap.1 HMM.out).mono ?_; rintro e wt1 ⟨rfl, hbt1⟩; have HT1 := hidOf (HP2.out.grow hbt1); clear hbt1)
          | (go_at_call 17; refine (rpeek_min (w.heap.size + 1) (M ++ [⟨ky, tg, n⟩]) rr1 mm _ (HT1.out.grow ((Below.refl _ _).alloc (Nat.le_refl _) _)).ref HP2.out.heap.1.came.1 HMM.out (by have := HP2.out.heap.1.came.2; omega)).mono ?_; rintro e wt2 ⟨rfl, hbt2⟩; have HT2 := hidOf ((HT1.out.grow ((Below.refl _ _).alloc (Nat.le_refl _) _)).grow hbt2); have hxa : wt2.heap[wt1.heap.size]? = some (.cells #[.int .i64 mm.k, .int .i64 mm.t] 26 (0, 0)) := (hbt2.block _ (by simp)).trans (heap_alloc_new wt1 _); have HXA := hidOf hxa; clear hbt2 hxa))
        obtain ⟨wt3, hwt3⟩ : ∃ x, x = wt2.alloc (.cells #[.int .i64 mm.k, .int .i64 mm.t] 26) := ⟨_, rfl⟩
        have HT3 : Hid (Pst w wt3 (M ++ [⟨ky, tg, n⟩]) (n + 1) r1 rr1) := by rw [hwt3]; exact hidOf (HT2.out.grow ((Below.refl _ _).alloc (Nat.le_refl _) _))
        have hya : wt3.heap[wt1.heap.size]? = some (.cells #[.int .i64 mm.k, .int .i64 mm.t] 26 (0, 0)) := by rw [hwt3]; exact (Below.heap_alloc wt2 _ _ (heap_lt HXA.out)).trans HXA.out
        have hyb : wt3.heap[wt2.heap.size]? = some (.cells #[.int .i64 mm.k, .int .i64 mm.t] 26 (0, 0)) := by rw [hwt3]; exact heap_alloc_new wt2 _
        obtain ⟨pa0, pa1, _, _⟩ := res_cells hya
        obtain ⟨pb0, pb1, _, _⟩ := res_cells hyb
        obtain ⟨rq0, rq1, rq2, _, _, _⟩ := HT3.out.ref.cells
        rw [← hwt3]
        clear hwt3 hya hyb
        go_quiet (first | (go_at_call 18; refine Calls.quiet_of_same (len_any w.heap.size (n + 1) (M ++ [⟨ky, tg, n⟩]) r1 _ ?_); exact HT3.out.heap.1.kept rfl (fun _ _ => rfl)))
        go_wp2
        go_roundw
        case rel => exact ⟨k + 1, (n + 1), (M ++ [⟨ky, tg, n⟩]), r1, rr1, by go_num, by omega, by omega, hidOf (HT3.out.grow (w' := wt3.drewN nq) ⟨rfl, rfl, rfl, Nat.le_refl _, fun _ _ => rfl⟩)⟩
        case measure => simp [intOf]; omega
      · by_cases hk1 : kd = 1
        · subst hk1
          by_cases hM0 : M = []
          · subst hM0
            go_wp2_with (first
              | (go_at_call 12; refine (pop_nil w.heap.size n r _ (HX2.out _).heap.1).mono ?_; rintro e wp ⟨rfl, hb1⟩; have HP1 := hidOf ((HX2.out _).grow hb1); clear hb1)
              | (go_at_call 13; refine (rpop_nil (w.heap.size + 1) rr _ (HP1.out.grow ((Below.refl _ _).alloc (Nat.le_refl _) _)).ref).mono ?_; rintro e wq ⟨rfl, hb2⟩; have hz8 : wq.heap[wp.heap.size]? = some (.cells #[.int .i64 0, .int .i64 0] 26 (0, 0)) := (hb2.block _ (by simp)).trans (heap_alloc_new wp _); have hz9 : ∀ o : Obj, (wq.alloc o).heap[wp.heap.size]? = some (.cells #[.int .i64 0, .int .i64 0] 26 (0, 0)) := (fun o => (Below.heap_alloc wq o _ (heap_lt hz8)).trans hz8); have q0 := (fun o => (res_cells (hz9 o)).1); have q1 := (fun o => (res_cells (hz9 o)).2.1); have HP2 := hidOf (((HP1.out.grow ((Below.refl _ _).alloc (Nat.le_refl _) _)).grow hb2).grow ((Below.refl _ _).alloc (Nat.le_refl _) (.cells #[.int .i64 0, .int .i64 0] 26))); clear hb2 hz8 hz9)
              | (go_at_call 16; refine (peek_nil w.heap.size n r _ HP2.out.heap.1).mono ?_; rintro e wt1 ⟨rfl, hbt1⟩; have HT1 := hidOf (HP2.out.grow hbt1); clear hbt1)
              | (go_at_call 17; refine (rpeek_nil (w.heap.size + 1) rr _ (HT1.out.grow ((Below.refl _ _).alloc (Nat.le_refl _) _)).ref).mono ?_; rintro e wt2 ⟨rfl, hbt2⟩; have HT2 := hidOf ((HT1.out.grow ((Below.refl _ _).alloc (Nat.le_refl _) _)).grow hbt2); have hxa : wt2.heap[wt1.heap.size]? = some (.cells #[.int .i64 0, .int .i64 0] 26 (0, 0)) := (hbt2.block _ (by simp)).trans (heap_alloc_new wt1 _); have HXA := hidOf hxa; clear hbt2 hxa))
            obtain ⟨wt3, hwt3⟩ : ∃ x, x = wt2.alloc (.cells #[.int .i64 0, .int .i64 0] 26) := ⟨_, rfl⟩
            have HT3 : Hid (Pst w wt3 [] n r rr) := by rw [hwt3]; exact hidOf (HT2.out.grow ((Below.refl _ _).alloc (Nat.le_refl _) _))
            have hya : wt3.heap[wt1.heap.size]? = some (.cells #[.int .i64 0, .int .i64 0] 26 (0, 0)) := by rw [hwt3]; exact (Below.heap_alloc wt2 _ _ (heap_lt HXA.out)).trans HXA.out
            have hyb : wt3.heap[wt2.heap.size]? = some (.cells #[.int .i64 0, .int .i64 0] 26 (0, 0)) := by rw [hwt3]; exact heap_alloc_new wt2 _
            obtain ⟨pa0, pa1, _, _⟩ := res_cells hya
            obtain ⟨pb0, pb1, _, _⟩ := res_cells hyb
            obtain ⟨rq0, rq1, rq2, _, _, _⟩ := HT3.out.ref.cells
            rw [← hwt3]
            clear hwt3 hya hyb
            go_quiet (first | (go_at_call 18; refine Calls.quiet_of_same (len_any w.heap.size n [] r _ ?_); exact HT3.out.heap.1.kept rfl (fun _ _ => rfl)))
            go_wp2
            go_roundw
            case rel => exact ⟨k + 1, n, [], r, rr, by go_num, by omega, by omega, hidOf (HT3.out.grow (w' := wt3.drewN nq) ⟨rfl, rfl, rfl, Nat.le_refl _, fun _ _ => rfl⟩)⟩
            case measure => simp [intOf]; omega
          · obtain ⟨m, hm⟩ := H.out.heap.1.min hM0
            have HM := hidOf hm
            clear hm
            by_cases hE0 : M.erase m = []
            · have HE0 := hidOf hE0
              clear hE0
              go_wp2_with (first
                | (go_at_call 12; refine (pop_min w.heap.size n M m r _ (HX2.out _).heap.1 HM.out (by omega)).mono ?_; rintro e wp ⟨rfl, h1, n1⟩; have HP1 := hidOf ((HX2.out _).mid h1 n1); have hps : wr.heap.size < wp.heap.size := Nat.lt_of_lt_of_le (by simp) n1.size; clear h1 n1)
                | (go_at_call 13; refine (rpop_min (w.heap.size + 1) M rr m _ (HP1.out.2.grow ((Below.refl _ _).alloc (Nat.le_refl _) _)) H.out.heap.1.came.1 HM.out (by have := H.out.heap.1.came.2; omega)).mono ?_; rintro e wq ⟨rfl, rr1, h2, s2, o2⟩; have hz8 : wq.heap[wp.heap.size]? = some (.cells #[.int .i64 m.k, .int .i64 m.t] 26 (0, 0)) := (s2.block _ (by simp) (by have := H.out.ref.lt.1; omega)).trans (heap_alloc_new wp _); have hz9 : ∀ o : Obj, (wq.alloc o).heap[wp.heap.size]? = some (.cells #[.int .i64 m.k, .int .i64 m.t] 26 (0, 0)) := (fun o => (Below.heap_alloc wq o _ (heap_lt hz8)).trans hz8); have q0 := (fun o => (res_cells (hz9 o)).1); have q1 := (fun o => (res_cells (hz9 o)).2.1); have HP2 := hidOf ((Pst.finS (HP1.out.1.grow ((Below.refl _ _).alloc (Nat.le_refl _) _)) (HP1.out.2.grow ((Below.refl _ _).alloc (Nat.le_refl _) _)) H.out.own h2 s2 o2).grow ((Below.refl _ _).alloc (Nat.le_refl _) (.cells #[.int .i64 m.k, .int .i64 m.t] 26))); rw [HE0.out] at HP2; clear h2 s2 o2 hz8 hz9)
                | (go_at_call 16; refine (peek_nil w.heap.size n r _ HP2.out.heap.1).mono ?_; rintro e wt1 ⟨rfl, hbt1⟩; have HT1 := hidOf (HP2.out.grow hbt1); clear hbt1)
                | (go_at_call 17; refine (rpeek_nil (w.heap.size + 1) rr1 _ (HT1.out.grow ((Below.refl _ _).alloc (Nat.le_refl _) _)).ref).mono ?_; rintro e wt2 ⟨rfl, hbt2⟩; have HT2 := hidOf ((HT1.out.grow ((Below.refl _ _).alloc (Nat.le_refl _) _)).grow hbt2); have hxa : wt2.heap[wt1.heap.size]? = some (.cells #[.int .i64 0, .int .i64 0] 26 (0, 0)) := (hbt2.block _ (by simp)).trans (heap_alloc_new wt1 _); have HXA := hidOf hxa; clear hbt2 hxa))
              obtain ⟨wt3, hwt3⟩ : ∃ x, x = wt2.alloc (.cells #[.int .i64 0, .int .i64 0] 26) := ⟨_, rfl⟩
              have HT3 : Hid (Pst w wt3 [] n r rr1) := by rw [hwt3]; exact hidOf (HT2.out.grow ((Below.refl _ _).alloc (Nat.le_refl _) _))
              have hya : wt3.heap[wt1.heap.size]? = some (.cells #[.int .i64 0, .int .i64 0] 26 (0, 0)) := by rw [hwt3]; exact (Below.heap_alloc wt2 _ _ (heap_lt HXA.out)).trans HXA.out
              have hyb : wt3.heap[wt2.heap.size]? = some (.cells #[.int .i64 0, .int .i64 0] 26 (0, 0)) := by rw [hwt3]; exact heap_alloc_new wt2 _
              obtain ⟨pa0, pa1, _, _⟩ := res_cells hya
              obtain ⟨pb0, pb1, _, _⟩ := res_cells hyb
              obtain ⟨rq0, rq1, rq2, _, _, _⟩ := HT3.out.ref.cells
              rw [← hwt3]
              clear hwt3 hya hyb
              go_quiet (first | (go_at_call 18; refine Calls.quiet_of_same (len_any w.heap.size n [] r _ ?_); exact HT3.out.heap.1.kept rfl (fun _ _ => rfl)))
              go_wp2
              go_roundw
              case rel => exact ⟨k + 1, n, [], r, rr1, by go_num, by omega, by omega, hidOf (HT3.out.grow (w' := wt3.drewN nq) ⟨rfl, rfl, rfl, Nat.le_refl _, fun _ _ => rfl⟩)⟩
              case measure => simp [intOf]; omega
            · obtain ⟨mm, hmm⟩ := min_ex _ hE0
              have HMM := hidOf hmm
              clear hmm
              go_wp2_with (first
                | (go_at_call 12; refine (pop_min w.heap.size n M m r _ (HX2.out _).heap.1 HM.out (by omega)).mono ?_; rintro e wp ⟨rfl, h1, n1⟩; have HP1 := hidOf ((HX2.out _).mid h1 n1); have hps : wr.heap.size < wp.heap.size := Nat.lt_of_lt_of_le (by simp) n1.size; clear h1 n1)
                | (go_at_call 13; refine (rpop_min (w.heap.size + 1) M rr m _ (HP1.out.2.grow ((Below.refl _ _).alloc (Nat.le_refl _) _)) H.out.heap.1.came.1 HM.out (by have := H.out.heap.1.came.2; omega)).mono ?_; rintro e wq ⟨rfl, rr1, h2, s2, o2⟩; have hz8 : wq.heap[wp.heap.size]? = some (.cells #[.int .i64 m.k, .int .i64 m.t] 26 (0, 0)) := (s2.block _ (by simp) (by have := H.out.ref.lt.1; omega)).trans (heap_alloc_new wp _); have hz9 : ∀ o : Obj, (wq.alloc o).heap[wp.heap.size]? = some (.cells #[.int .i64 m.k, .int .i64 m.t] 26 (0, 0)) := (fun o => (Below.heap_alloc wq o _ (heap_lt hz8)).trans hz8); have q0 := (fun o => (res_cells (hz9 o)).1); have q1 := (fun o => (res_cells (hz9 o)).2.1); have HP2 := hidOf ((Pst.finS (HP1.out.1.grow ((Below.refl _ _).alloc (Nat.le_refl _) _)) (HP1.out.2.grow ((Below.refl _ _).alloc (Nat.le_refl _) _)) H.out.own h2 s2 o2).grow ((Below.refl _ _).alloc (Nat.le_refl _) (.cells #[.int .i64 m.k, .int .i64 m.t] 26))); clear h2 s2 o2 hz8 hz9)
                | (go_at_call 16; refine (peek_min w.heap.size n (M.erase m) mm r _ HP2.out.heap.1 HMM.out).mono ?_; rintro e wt1 ⟨rfl, hbt1⟩; have HT1 := hidOf (HP2.out.grow hbt1); clear hbt1)
                | (go_at_call 17; refine (rpeek_min (w.heap.size + 1) (M.erase m) rr1 mm _ (HT1.out.grow ((Below.refl _ _).alloc (Nat.le_refl _) _)).ref HP2.out.heap.1.came.1 HMM.out (by have := HP2.out.heap.1.came.2; omega)).mono ?_; rintro e wt2 ⟨rfl, hbt2⟩; have HT2 := hidOf ((HT1.out.grow ((Below.refl _ _).alloc (Nat.le_refl _) _)).grow hbt2); have hxa : wt2.heap[wt1.heap.size]? = some (.cells #[.int .i64 mm.k, .int .i64 mm.t] 26 (0, 0)) := (hbt2.block _ (by simp)).trans (heap_alloc_new wt1 _); have HXA := hidOf hxa; clear hbt2 hxa))
              obtain ⟨wt3, hwt3⟩ : ∃ x, x = wt2.alloc (.cells #[.int .i64 mm.k, .int .i64 mm.t] 26) := ⟨_, rfl⟩
              have HT3 : Hid (Pst w wt3 (M.erase m) n r rr1) := by rw [hwt3]; exact hidOf (HT2.out.grow ((Below.refl _ _).alloc (Nat.le_refl _) _))
              have hya : wt3.heap[wt1.heap.size]? = some (.cells #[.int .i64 mm.k, .int .i64 mm.t] 26 (0, 0)) := by rw [hwt3]; exact (Below.heap_alloc wt2 _ _ (heap_lt HXA.out)).trans HXA.out
              have hyb : wt3.heap[wt2.heap.size]? = some (.cells #[.int .i64 mm.k, .int .i64 mm.t] 26 (0, 0)) := by rw [hwt3]; exact heap_alloc_new wt2 _
              obtain ⟨pa0, pa1, _, _⟩ := res_cells hya
              obtain ⟨pb0, pb1, _, _⟩ := res_cells hyb
              obtain ⟨rq0, rq1, rq2, _, _, _⟩ := HT3.out.ref.cells
              rw [← hwt3]
              clear hwt3 hya hyb
              go_quiet (first | (go_at_call 18; refine Calls.quiet_of_same (len_any w.heap.size n (M.erase m) r _ ?_); exact HT3.out.heap.1.kept rfl (fun _ _ => rfl)))
              go_wp2
              go_roundw
              case rel => exact ⟨k + 1, n, (M.erase m), r, rr1, by go_num, by omega, by omega, hidOf (HT3.out.grow (w' := wt3.drewN nq) ⟨rfl, rfl, rfl, Nat.le_refl _, fun _ _ => rfl⟩)⟩
              case measure => simp [intOf]; omega
        · by_cases hk3 : kd = 3
          · subst hk3
            by_cases hF0 : M.filter (kp ky) = []
            · have HE0 := hidOf hF0
              clear hF0
              have HXD : Hid (Pst w (wr.alloc (.cells #[.int .i64 3, .int .i64 ky, .int .i64 tg] 33)).drew M n r rr) := hidOf ((HX2.out _).grow ((Below.refl _ _).drew))
              go_wp2
              go_region_held3 (fun w' => w'.cell? ⟨wr.heap.size, 1, none⟩ = some (.int .i64 ky) ∧ w'.cell? ⟨wr.heap.size, 2, none⟩ = some (.int .i64 tg)) (first | go_keep | exact ⟨t1, t2⟩ | exact ⟨u1, u2⟩) (first | (go_at_call 14; refine (remove_any w.heap.size n M r ky tg _ HXD.out.heap.1 (by omega)).mono ?_; rintro e wp ⟨rfl, h1, n1⟩; have HP1 := hidOf (HXD.out.mid h1 n1); have hxp : wp.heap[wr.heap.size]? = some (.cells #[.int .i64 3, .int .i64 ky, .int .i64 tg] 33 (0, 0)) := n1.other HXD.out.heap.1 (heap_alloc_new wr _) (by intro cs f; constructor <;> intro e <;> cases e); have u1 : wp.cell? ⟨wr.heap.size, 1, none⟩ = some (.int .i64 ky) := (by rw [cell_of_row wp _ 1 _ 33 (0, 0) hxp]; rfl); have u2 : wp.cell? ⟨wr.heap.size, 2, none⟩ = some (.int .i64 tg) := (by rw [cell_of_row wp _ 2 _ 33 (0, 0) hxp]; rfl); have HXP := hidOf hxp; clear h1 n1 hxp) | (go_at_call 15; refine (rremove_any (w.heap.size + 1) M rr ky _ HP1.out.2 (by have := H.out.heap.1.came.2; omega)).mono ?_; rintro e wq ⟨rfl, rr1, h2, s2, o2⟩; have hxq : wq.heap[wr.heap.size]? = some (.cells #[.int .i64 3, .int .i64 ky, .int .i64 tg] 33 (0, 0)) := (s2.block _ (heap_lt HXP.out) (by have := H.out.ref.lt.1; omega)).trans HXP.out; have t1 : wq.cell? ⟨wr.heap.size, 1, none⟩ = some (.int .i64 ky) := (by rw [cell_of_row wq _ 1 _ 33 (0, 0) hxq]; rfl); have t2 : wq.cell? ⟨wr.heap.size, 2, none⟩ = some (.int .i64 tg) := (by rw [cell_of_row wq _ 2 _ 33 (0, 0) hxq]; rfl); have HP2 := hidOf (Pst.finS HP1.out.1 HP1.out.2 H.out.own h2 s2 o2); rw [HE0.out] at HP2; clear h2 s2 o2 hxq))
              go_wp2_with (first
                | (go_at_call 16; refine (peek_nil w.heap.size n r _ HP2.out.heap.1).mono ?_; rintro e wt1 ⟨rfl, hbt1⟩; have HT1 := hidOf (HP2.out.grow hbt1); clear hbt1)
                | (go_at_call 17; refine (rpeek_nil (w.heap.size + 1) rr1 _ (HT1.out.grow ((Below.refl _ _).alloc (Nat.le_refl _) _)).ref).mono ?_; rintro e wt2 ⟨rfl, hbt2⟩; have HT2 := hidOf ((HT1.out.grow ((Below.refl _ _).alloc (Nat.le_refl _) _)).grow hbt2); have hxa : wt2.heap[wt1.heap.size]? = some (.cells #[.int .i64 0, .int .i64 0] 26 (0, 0)) := (hbt2.block _ (by simp)).trans (heap_alloc_new wt1 _); have HXA := hidOf hxa; clear hbt2 hxa))
              obtain ⟨wt3, hwt3⟩ : ∃ x, x = wt2.alloc (.cells #[.int .i64 0, .int .i64 0] 26) := ⟨_, rfl⟩
              have HT3 : Hid (Pst w wt3 [] n r rr1) := by rw [hwt3]; exact hidOf (HT2.out.grow ((Below.refl _ _).alloc (Nat.le_refl _) _))
              have hya : wt3.heap[wt1.heap.size]? = some (.cells #[.int .i64 0, .int .i64 0] 26 (0, 0)) := by rw [hwt3]; exact (Below.heap_alloc wt2 _ _ (heap_lt HXA.out)).trans HXA.out
              have hyb : wt3.heap[wt2.heap.size]? = some (.cells #[.int .i64 0, .int .i64 0] 26 (0, 0)) := by rw [hwt3]; exact heap_alloc_new wt2 _
              obtain ⟨pa0, pa1, _, _⟩ := res_cells hya
              obtain ⟨pb0, pb1, _, _⟩ := res_cells hyb
              obtain ⟨rq0, rq1, rq2, _, _, _⟩ := HT3.out.ref.cells
              rw [← hwt3]
              clear hwt3 hya hyb
              go_quiet (first | (go_at_call 18; refine Calls.quiet_of_same (len_any w.heap.size n [] r _ ?_); exact HT3.out.heap.1.kept rfl (fun _ _ => rfl)))
              go_wp2
              go_roundw
              case rel => exact ⟨k + 1, n, [], r, rr1, by go_num, by omega, by omega, hidOf (HT3.out.grow (w' := wt3.drewN nq) ⟨rfl, rfl, rfl, Nat.le_refl _, fun _ _ => rfl⟩)⟩
              case measure => simp [intOf]; omega
            · obtain ⟨mm, hmm⟩ := min_ex _ hF0
              have HMM := hidOf hmm
              clear hmm hF0
              have HXD : Hid (Pst w (wr.alloc (.cells #[.int .i64 3, .int .i64 ky, .int .i64 tg] 33)).drew M n r rr) := hidOf ((HX2.out _).grow ((Below.refl _ _).drew))
              go_wp2
              go_region_held3 (fun w' => w'.cell? ⟨wr.heap.size, 1, none⟩ = some (.int .i64 ky) ∧ w'.cell? ⟨wr.heap.size, 2, none⟩ = some (.int .i64 tg)) (first | go_keep | exact ⟨t1, t2⟩ | exact ⟨u1, u2⟩) (first | (go_at_call 14; refine (remove_any w.heap.size n M r ky tg _ HXD.out.heap.1 (by omega)).mono ?_; rintro e wp ⟨rfl, h1, n1⟩; have HP1 := hidOf (HXD.out.mid h1 n1); have hxp : wp.heap[wr.heap.size]? = some (.cells #[.int .i64 3, .int .i64 ky, .int .i64 tg] 33 (0, 0)) := n1.other HXD.out.heap.1 (heap_alloc_new wr _) (by intro cs f; constructor <;> intro e <;> cases e); have u1 : wp.cell? ⟨wr.heap.size, 1, none⟩ = some (.int .i64 ky) := (by rw [cell_of_row wp _ 1 _ 33 (0, 0) hxp]; rfl); have u2 : wp.cell? ⟨wr.heap.size, 2, none⟩ = some (.int .i64 tg) := (by rw [cell_of_row wp _ 2 _ 33 (0, 0) hxp]; rfl); have HXP := hidOf hxp; clear h1 n1 hxp) | (go_at_call 15; refine (rremove_any (w.heap.size + 1) M rr ky _ HP1.out.2 (by have := H.out.heap.1.came.2; omega)).mono ?_; rintro e wq ⟨rfl, rr1, h2, s2, o2⟩; have hxq : wq.heap[wr.heap.size]? = some (.cells #[.int .i64 3, .int .i64 ky, .int .i64 tg] 33 (0, 0)) := (s2.block _ (heap_lt HXP.out) (by have := H.out.ref.lt.1; omega)).trans HXP.out; have t1 : wq.cell? ⟨wr.heap.size, 1, none⟩ = some (.int .i64 ky) := (by rw [cell_of_row wq _ 1 _ 33 (0, 0) hxq]; rfl); have t2 : wq.cell? ⟨wr.heap.size, 2, none⟩ = some (.int .i64 tg) := (by rw [cell_of_row wq _ 2 _ 33 (0, 0) hxq]; rfl); have HP2 := hidOf (Pst.finS HP1.out.1 HP1.out.2 H.out.own h2 s2 o2);  clear h2 s2 o2 hxq))
              go_wp2_with (first
                | (go_at_call 16; refine (peek_min w.heap.size n (M.filter (kp ky)) mm r _ HP2.out.heap.1 HMM.out).mono ?_; rintro e wt1 ⟨rfl, hbt1⟩; have HT1 := hidOf (HP2.out.grow hbt1); clear hbt1)
                | (go_at_call 17; refine (rpeek_min (w.heap.size + 1) (M.filter (kp ky)) rr1 mm _ (HT1.out.grow ((Below.refl _ _).alloc (Nat.le_refl _) _)).ref HP2.out.heap.1.came.1 HMM.out (by have := HP2.out.heap.1.came.2; omega)).mono ?_; rintro e wt2 ⟨rfl, hbt2⟩; have HT2 := hidOf ((HT1.out.grow ((Below.refl _ _).alloc (Nat.le_refl _) _)).grow hbt2); have hxa : wt2.heap[wt1.heap.size]? = some (.cells #[.int .i64 mm.k, .int .i64 mm.t] 26 (0, 0)) := (hbt2.block _ (by simp)).trans (heap_alloc_new wt1 _); have HXA := hidOf hxa; clear hbt2 hxa))
              obtain ⟨wt3, hwt3⟩ : ∃ x, x = wt2.alloc (.cells #[.int .i64 mm.k, .int .i64 mm.t] 26) := ⟨_, rfl⟩
              have HT3 : Hid (Pst w wt3 (M.filter (kp ky)) n r rr1) := by rw [hwt3]; exact hidOf (HT2.out.grow ((Below.refl _ _).alloc (Nat.le_refl _) _))
              have hya : wt3.heap[wt1.heap.size]? = some (.cells #[.int .i64 mm.k, .int .i64 mm.t] 26 (0, 0)) := by rw [hwt3]; exact (Below.heap_alloc wt2 _ _ (heap_lt HXA.out)).trans HXA.out
              have hyb : wt3.heap[wt2.heap.size]? = some (.cells #[.int .i64 mm.k, .int .i64 mm.t] 26 (0, 0)) := by rw [hwt3]; exact heap_alloc_new wt2 _
              obtain ⟨pa0, pa1, _, _⟩ := res_cells hya
              obtain ⟨pb0, pb1, _, _⟩ := res_cells hyb
              obtain ⟨rq0, rq1, rq2, _, _, _⟩ := HT3.out.ref.cells
              rw [← hwt3]
              clear hwt3 hya hyb
              go_quiet (first | (go_at_call 18; refine Calls.quiet_of_same (len_any w.heap.size n (M.filter (kp ky)) r _ ?_); exact HT3.out.heap.1.kept rfl (fun _ _ => rfl)))
              go_wp2
              go_roundw
              case rel => exact ⟨k + 1, n, (M.filter (kp ky)), r, rr1, by go_num, by omega, by omega, hidOf (HT3.out.grow (w' := wt3.drewN nq) ⟨rfl, rfl, rfl, Nat.le_refl _, fun _ _ => rfl⟩)⟩
              case measure => simp [intOf]; omega
          · have kb0 : (kd == 0) = false := beq_eq_false_iff_ne.2 hk0
            have kb1 : (kd == 1) = false := beq_eq_false_iff_ne.2 hk1
            have kb3 : (kd == 3) = false := beq_eq_false_iff_ne.2 hk3
            clear hk0 hk1 hk3
            by_cases hM0 : M = []
            · subst hM0
              have HE := hidOf (HX2.out (.cells #[.int .i64 kd, .int .i64 ky, .int .i64 tg] 33))
              go_wp2_with (first
                | (go_at_call 16; refine (peek_nil w.heap.size n r _ HE.out.heap.1).mono ?_; rintro e wt1 ⟨rfl, hbt1⟩; have HT1 := hidOf (HE.out.grow hbt1); clear hbt1)
                | (go_at_call 17; refine (rpeek_nil (w.heap.size + 1) rr _ (HT1.out.grow ((Below.refl _ _).alloc (Nat.le_refl _) _)).ref).mono ?_; rintro e wt2 ⟨rfl, hbt2⟩; have HT2 := hidOf ((HT1.out.grow ((Below.refl _ _).alloc (Nat.le_refl _) _)).grow hbt2); have hxa : wt2.heap[wt1.heap.size]? = some (.cells #[.int .i64 0, .int .i64 0] 26 (0, 0)) := (hbt2.block _ (by simp)).trans (heap_alloc_new wt1 _); have HXA := hidOf hxa; clear hbt2 hxa))
              obtain ⟨wt3, hwt3⟩ : ∃ x, x = wt2.alloc (.cells #[.int .i64 0, .int .i64 0] 26) := ⟨_, rfl⟩
              have HT3 : Hid (Pst w wt3 [] n r rr) := by rw [hwt3]; exact hidOf (HT2.out.grow ((Below.refl _ _).alloc (Nat.le_refl _) _))
              have hya : wt3.heap[wt1.heap.size]? = some (.cells #[.int .i64 0, .int .i64 0] 26 (0, 0)) := by rw [hwt3]; exact (Below.heap_alloc wt2 _ _ (heap_lt HXA.out)).trans HXA.out
              have hyb : wt3.heap[wt2.heap.size]? = some (.cells #[.int .i64 0, .int .i64 0] 26 (0, 0)) := by rw [hwt3]; exact heap_alloc_new wt2 _
              obtain ⟨pa0, pa1, _, _⟩ := res_cells hya
              obtain ⟨pb0, pb1, _, _⟩ := res_cells hyb
              obtain ⟨rq0, rq1, rq2, _, _, _⟩ := HT3.out.ref.cells
              rw [← hwt3]
              clear hwt3 hya hyb
              go_quiet (first | (go_at_call 18; refine Calls.quiet_of_same (len_any w.heap.size n [] r _ ?_); exact HT3.out.heap.1.kept rfl (fun _ _ => rfl)))
              go_wp2
              go_roundw
              case rel => exact ⟨k + 1, n, [], r, rr, by go_num, by omega, by omega, hidOf (HT3.out.grow (w' := wt3.drewN nq) ⟨rfl, rfl, rfl, Nat.le_refl _, fun _ _ => rfl⟩)⟩
              case measure => simp [intOf]; omega
            · obtain ⟨mm, hmm⟩ := H.out.heap.1.min hM0
              have HMM := hidOf hmm
              clear hmm
              have HE := hidOf (HX2.out (.cells #[.int .i64 kd, .int .i64 ky, .int .i64 tg] 33))
              go_wp2_with (first
                | (go_at_call 16; refine (peek_min w.heap.size n M mm r _ HE.out.heap.1 HMM.out).mono ?_; rintro e wt1 ⟨rfl, hbt1⟩; have HT1 := hidOf (HE.out.grow hbt1); clear hbt1)
                | (go_at_call 17; refine (rpeek_min (w.heap.size + 1) M rr mm _ (HT1.out.grow ((Below.refl _ _).alloc (Nat.le_refl _) _)).ref HE.out.heap.1.came.1 HMM.out (by have := HE.out.heap.1.came.2; omega)).mono ?_; rintro e wt2 ⟨rfl, hbt2⟩; have HT2 := hidOf ((HT1.out.grow ((Below.refl _ _).alloc (Nat.le_refl _) _)).grow hbt2); have hxa : wt2.heap[wt1.heap.size]? = some (.cells #[.int .i64 mm.k, .int .i64 mm.t] 26 (0, 0)) := (hbt2.block _ (by simp)).trans (heap_alloc_new wt1 _); have HXA := hidOf hxa; clear hbt2 hxa))
              obtain ⟨wt3, hwt3⟩ : ∃ x, x = wt2.alloc (.cells #[.int .i64 mm.k, .int .i64 mm.t] 26) := ⟨_, rfl⟩
              have HT3 : Hid (Pst w wt3 M n r rr) := by rw [hwt3]; exact hidOf (HT2.out.grow ((Below.refl _ _).alloc (Nat.le_refl _) _))
              have hya : wt3.heap[wt1.heap.size]? = some (.cells #[.int .i64 mm.k, .int .i64 mm.t] 26 (0, 0)) := by rw [hwt3]; exact (Below.heap_alloc wt2 _ _ (heap_lt HXA.out)).trans HXA.out
              have hyb : wt3.heap[wt2.heap.size]? = some (.cells #[.int .i64 mm.k, .int .i64 mm.t] 26 (0, 0)) := by rw [hwt3]; exact heap_alloc_new wt2 _
              obtain ⟨pa0, pa1, _, _⟩ := res_cells hya
              obtain ⟨pb0, pb1, _, _⟩ := res_cells hyb
              obtain ⟨rq0, rq1, rq2, _, _, _⟩ := HT3.out.ref.cells
              rw [← hwt3]
              clear hwt3 hya hyb
              go_quiet (first | (go_at_call 18; refine Calls.quiet_of_same (len_any w.heap.size n M r _ ?_); exact HT3.out.heap.1.kept rfl (fun _ _ => rfl)))
              go_wp2
              go_roundw
              case rel => exact ⟨k + 1, n, M, r, rr, by go_num, by omega, by omega, hidOf (HT3.out.grow (w' := wt3.drewN nq) ⟨rfl, rfl, rfl, Nat.le_refl _, fun _ _ => rfl⟩)⟩
              case measure => simp [intOf]; omega
    · have hltz : ¬ (k : Int) < (l.length : Int) := by omega
      go_wp2
      go_ret
      exact ⟨rfl, H.out.heap.2.1⟩

end Go.Proofs.Ytmkbndiliehdcaa
