/- BrokerFirst, walked. -/
import Derived.Test.YtndomlbjdppckaaBli
import Derived.Test.YtndomlbjdppckaaBop
import Derived.Deep.Cut
namespace Go.Proofs.Ytndomlbjdppckaa
open Go.RowKit

/- the evaluations that the law makes: of different jobs, all pending -/
def owE (es : List Ev) (i : Nat) : Ev := ⟨(i : Int), (es.getD i default).pr, 1, (es.getD i default).ix⟩
def owK (es : List Ev) (k : Nat) : List Ev := (List.range k).map (owE es)
theorem owK_len (es : List Ev) (k : Nat) : (owK es k).length = k := by simp [owK]
theorem owK_succ (es : List Ev) (k : Nat) : owK es (k + 1) = owK es k ++ [owE es k] := by simp [owK, List.range_succ]
def nwK (es : List Ev) (k : Nat) : List Itm := (owK es k).map newI
theorem nwK_len (es : List Ev) (k : Nat) : (nwK es k).length = k := by simp [nwK, owK_len]
theorem nwK_jb {es : List Ev} {k : Nat} {x : Itm} (h : x ∈ nwK es k) : ∃ i : Nat, i < k ∧ x = newI (owE es i) := by
  obtain ⟨e, he, rfl⟩ := List.mem_map.1 h
  obtain ⟨i, hi, rfl⟩ := List.mem_map.1 he
  exact ⟨i, by simpa using hi, rfl⟩
theorem fold_own (es : List Ev) (k : Nat) : (owK es k).foldl u1 [] = nwK es k := by
  induction k with
  | zero => rfl
  | succ k ih =>
    rw [owK_succ, List.foldl_append, ih]
    have h1 : (nwK es k).findIdx? (fun x => x.jb == (owE es k).jb) = none := by
      rw [List.findIdx?_eq_none_iff]
      intro x hx
      obtain ⟨i, hi, rfl⟩ := nwK_jb hx
      simp [newI, owE]
      omega
    show u1 (nwK es k) (owE es k) = _
    unfold u1
    rw [if_pos (show (owE es k).st = 1 from rfl), h1]
    simp [nwK, owK_succ]
theorem up_own (es : List Ev) (n : Nat) : upM [] (owK es n) = nwK es n := by
  unfold upM
  rw [fold_own]
  refine List.filter_eq_self.2 fun x hx => ?_
  obtain ⟨i, hi, rfl⟩ := nwK_jb hx
  have : pend (owK es n) (newI (owE es i)).jb = true := by
    unfold pend
    rw [List.any_eq_true]
    exact ⟨owE es i, List.mem_map.2 ⟨i, by simpa using hi, rfl⟩, by simp [newI, owE]⟩
  rw [this]; rfl
/- what comes next comes behind what went -/
structure Aft (p q : Int) (R : List Itm) : Prop where
  fr : ∀ z ∈ R, fr z = true
  nb : ∀ z ∈ R, z.tk = false
  le : ∀ z ∈ R, z.pr < p ∨ (z.pr = p ∧ q ≤ z.ix)
theorem heldM_none {wk : Int} {R : List Itm} (h : ∀ z ∈ R, z.tk = false) : heldM wk R = none := by
  unfold heldM
  rw [List.find?_eq_none]
  intro z hz
  simp [hb, h z hz]
theorem heldM_set {wk : Int} {R : List Itm} {i : Nat} {x : Itm} (h : ∀ z ∈ R, z.tk = false) (hi : R[i]? = some x) : (heldM wk (R.set i (tkn wk x))).isSome = true ∧ ackM wk (R.set i (tkn wk x)) = R.eraseIdx i := by
  have hl := (List.getElem?_eq_some_iff.1 hi).1
  have hf : (R.set i (tkn wk x)).findIdx? (hb wk) = some i := by
    rw [List.findIdx?_eq_some_iff_getElem]
    refine ⟨by simpa using hl, by simp [hb, tkn], fun j hj => ?_⟩
    rw [List.getElem_set_ne (by omega)]
    simp [hb, h R[j] (List.getElem_mem _)]
  refine ⟨?_, ?_⟩
  · unfold heldM
    rw [List.find?_isSome]
    exact ⟨tkn wk x, List.mem_of_getElem? (List.getElem?_set_self hl), by simp [hb, tkn]⟩
  · unfold ackM
    rw [hf]
    simp only
    apply List.ext_getElem?
    intro j
    rw [List.getElem?_eraseIdx, List.getElem?_eraseIdx]
    by_cases hj : j < i
    · rw [if_pos hj, if_pos hj, List.getElem?_set_ne (by omega)]
    · rw [if_neg hj, if_neg hj, List.getElem?_set_ne (by omega)]
theorem MinR.aft {R : List Itm} {i : Nat} {x : Itm} (h : MinR R i x) (hf : ∀ z ∈ R, fr z = true) (hn : ∀ z ∈ R, z.tk = false) : Aft x.pr x.ix (R.eraseIdx i) := by
  have hs : ∀ z, z ∈ R.eraseIdx i → z ∈ R := fun z hz => (List.eraseIdx_sublist ..).mem hz
  refine ⟨fun z hz => hf z (hs z hz), fun z hz => hn z (hs z hz), fun z hz => ?_⟩
  have h1 := h.2.2 z (hs z hz) (hf z (hs z hz))
  rw [klt_false] at h1
  omega
theorem ev_own {w : World} {v : Value} {es : List Ev} {n : Nat} (h : w.ownsRow 0 42 4 v n ((owK es n).flatMap (fun e => [.int .i64 e.jb, .int .i64 e.pr, .int .i64 e.st, .int .i64 e.ix]))) (D : Nat) : ∃ a c, v = .slice a n c ∧ EvR D w a (owK es n) := by
  rcases h.2 with ⟨rfl, e⟩ | ⟨g, cap, cur, rfl, _, h4, h1, h2, h5, h6⟩
  · subst e
    exact ⟨none, 0, rfl, fun h => absurd rfl h⟩
  · refine ⟨_, cap, rfl, fun _ => ⟨g, 0, rfl, heap_lt h4, .inr ⟨cur, h4⟩, fun i e he => ?_⟩⟩
    have hil : i < n := by have := (List.getElem?_eq_some_iff.1 he).1; rw [owK_len] at this; exact this
    have key : ∀ (l : List Ev) (i : Nat) (e : Ev), l[i]? = some e → ∀ j, j < 4 → (l.flatMap (fun e => ([.int .i64 e.jb, .int .i64 e.pr, .int .i64 e.st, .int .i64 e.ix] : List Value)))[i * 4 + j]? = ([.int .i64 e.jb, .int .i64 e.pr, .int .i64 e.st, .int .i64 e.ix] : List Value)[j]? := by
      intro l
      induction l with
      | nil => intro i e h; simp at h
      | cons y l ih =>
        intro i e h j hj
        rw [List.flatMap_cons]
        cases i with
        | zero =>
          simp at h; subst h
          rw [List.getElem?_append_left (by simp; omega)]; simp
        | succ i =>
          rw [List.getElem?_append_right (by simp; omega)]
          have := ih i e (by simpa using h) j hj
          rw [← this]
          congr 1
          simp; omega
    have hc : ∀ j u, j < 4 → ([.int .i64 e.jb, .int .i64 e.pr, .int .i64 e.st, .int .i64 e.ix] : List Value)[j]? = some u → w.cell? ⟨g, 0 + i * 4 + j, none⟩ = some u := fun j u hj hu => by
      rw [cell_of_row w g _ cur 42 (0, 0) h4]
      have h7 := (key _ i e he j hj).trans hu
      rw [← h6, List.getElem?_take, if_pos (by omega), Array.getElem?_toList] at h7
      rw [Nat.zero_add]; exact h7
    exact ⟨hc 0 _ (by omega) rfl, hc 1 _ (by omega) rfl, hc 2 _ (by omega) rfl, hc 3 _ (by omega) rfl⟩
theorem info42 : (Try.prog.info? 42).map (fun i => (i.zero, i.size, i.bytes)) = some (some (.agg #[.int .i64 0, .int .i64 0, .int .i64 0, .int .i64 0]), 4, 32) := by kernel_rfl
theorem box_new4 (w : World) (cs : Array Value) (j : Nat) (u : Value) (h : cs.toList[j]? = some u) : (w.alloc (.cells cs 42)).cell? ((⟨w.heap.size, 0, none⟩ : Addr).add j) = some u := cell_news w cs 42 j u h
theorem Sta.keepT {D D' : Nat} {T : List Nat} {w w' : World} {pB N : Nat} {R : List Itm} (h : Sta D w pB R N) (hf : FrT D' T w w') (hT : ∀ t ∈ TB, t ∉ T) : Sta D w' pB R N := by
  obtain ⟨L, h1, h2⟩ := h.ex
  exact ⟨⟨L, h1.keep hf hT, h2⟩, h.ok⟩
def fl4 (l : List Ev) : List Value := l.flatMap (fun e => [.int .i64 e.jb, .int .i64 e.pr, .int .i64 e.st, .int .i64 e.ix])
theorem fl4_snoc (l : List Ev) (e : Ev) : fl4 (l ++ [e]) = fl4 l ++ [.int .i64 e.jb, .int .i64 e.pr, .int .i64 e.st, .int .i64 e.ix] := by simp [fl4]

set_option maxHeartbeats 16000000 in
set_option maxRecDepth 100000 in
theorem lawFirst (a : Option Addr) (cap : Nat) (es : List Ev) (w : World) (hE : EvR w.heap.size w a es) (hL : es.length ≤ 1048576) : Calls Try.prog 6 #[.slice a es.length cap] w fun e w' => e = .returned (.bool true) ∧ Below w.heap.size w w' := by
  have HE := hidOf hE
  have HLV := hidOf lives_any
  have HC := hidOf (s_new (D := w.heap.size) w (Nat.le_refl _))
  simp only [ptr] at HC
  obtain ⟨i0, hi0, hz0, hz1, hz2⟩ := info_parts info42
  have HI := hidOf hi0
  have HZ0 := hidOf hz0
  have HZ1 := hidOf hz1
  have HZ2 := hidOf hz2
  clear hE hi0 hz0 hz1 hz2
  go_enter Try.func6, Try.ntmps6
  go_wp2_with (go_at_call 7; refine HC.out.mono ?_; rintro e w1 ⟨p, rfl, h1, h2⟩; have H1 := hidOf h1; have HF1 := hidOf h2; clear h1 h2 HC)
  go_loopw [4, 5] (fun o i wr => ∃ (k : Nat) (av : Option Addr) (cv : Nat), k ≤ es.length ∧ i = .int .i64 (k : Int) ∧ o = .slice av k cv ∧ Hid (wr.ownsRow 0 42 4 (.slice av k cv) k (fl4 (owK es k))) ∧ Hid (Sta w.heap.size wr p [] 0) ∧ Hid (∀ q, av = some q → w.heap.size ≤ q.block) ∧ Hid (FrT w.heap.size (42 :: TB) w wr)) (fun _ i _ => es.length - (intOf i).toNat)
  case atStart => exact ⟨0, none, 0, Nat.zero_le _, rfl, rfl, hidOf ⟨rfl, .inl ⟨rfl, rfl⟩⟩, H1, hidOf (fun q h => by cases h), hidOf (HF1.out.mono (by decide))⟩
  case round =>
    obtain ⟨k, av, cv, hk, rfl, rfl, HO, HS, HD, HF⟩ := hrel
    clear H1 HF1
    by_cases hlt : k < es.length
    · have hltz : (k : Int) < (es.length : Int) := by omega
      obtain ⟨e, he⟩ : ∃ e, es[k]? = some e := ⟨es[k], List.getElem?_eq_getElem hlt⟩
      have hb0 := HF.out.below (Nat.le_refl _)
      obtain ⟨b0, off, rfl, hbl, _, hcc⟩ := HE.out (fun x => by subst x; simp at hlt)
      obtain ⟨c0, c1, c2, c3⟩ := hcc k e he
      have e1 := hb0.block b0 hbl
      have d0 := (World.cell?_of_block e1).trans c0
      have d1 := (World.cell?_of_block e1).trans c1
      have d2 := (World.cell?_of_block e1).trans c2
      have d3 := (World.cell?_of_block e1).trans c3
      have hbr : b0 < wr.heap.size := Nat.lt_of_lt_of_le hbl HF.out.size
      have HOE : Hid (owE es k = ⟨(k : Int), e.pr, 1, e.ix⟩) := hidOf (by unfold owE; simp [List.getD, he])
      clear hcc c0 c1 c2 c3 e1 hb0 he hbl
      have HOB : Hid (∀ o1 o2 : Obj, ((wr.alloc o1).alloc o2).ownsRow 0 42 4 (.slice av k cv) k (fl4 (owK es k))) := hidOf (fun o1 o2 => own_keepT (D := 0) (T := []) HO.out (FrT.of_below (below2 wr o1 o2)) (by simp))
      go_upto_region 11 with (fail)
      go_wp2_with (at_builtin; refine wpList_appP _ rfl _ _ 29 rfl 0 42 i0 (.agg #[.int .i64 0, .int .i64 0, .int .i64 0, .int .i64 0]) 4 32 Try.underlying29 HI.out HZ0.out HZ1.out HZ2.out rfl (by decide) (.slice av k cv) k (fl4 (owK es k)) rfl (HOB.out _ _) ⟨wr.heap.size + 1, 0, none⟩ 1 1 [.int .i64 (k : Int), .int .i64 e.pr, .int .i64 1, .int .i64 e.ix] rfl rfl (fun j u hj => by have h9 := cell_news (wr.alloc (.cells #[.int .i64 (k : Int), .int .i64 e.pr, .int .i64 1, .int .i64 e.ix] 42)) #[.int .i64 (k : Int), .int .i64 e.pr, .int .i64 1, .int .i64 e.ix] 42 j u hj; rw [World.size_alloc] at h9; exact h9) (by intro u hu; simp at hu; rcases hu with rfl | rfl | rfl | rfl <;> rfl) (by unfold maxLen; omega) (by omega) (Nat.zero_le _) ?_; intro v6 w6 ho6 hg6 hv6; obtain ⟨a6, c6, rfl⟩ := own_slice ho6; have HO6 := hidOf ho6; have HG6 := hidOf hg6; have HV6 := hidOf hv6; clear ho6 hg6 hv6)
      have hF6 : FrT w.heap.size [42] ((wr.alloc (.cells #[.int .i64 (k : Int), .int .i64 e.pr, .int .i64 1, .int .i64 e.ix] 42)).alloc (.cells #[.int .i64 (k : Int), .int .i64 e.pr, .int .i64 1, .int .i64 e.ix] 42)) w6 := grown_frt (HOB.out _ _) (fun q hq => by
        cases av with
        | none => cases hq
        | some av => cases hq; exact HD.out _ rfl) HG6.out
      have hF7 : FrT w.heap.size (42 :: TB) wr w6 := (FrT.of_below (below2 wr _ _)).trans (hF6.mono (by decide))
      have HF7 := hidOf hF7
      have HS7 : Hid (Sta w.heap.size w6 p [] 0) := hidOf (by
        obtain ⟨Lz, hz1, hz2⟩ := HS.out.ex
        exact ⟨⟨Lz, hz1.keep ((FrT.of_below (D := w.heap.size) (T := [42]) (below2 wr (.cells #[.int .i64 (k : Int), .int .i64 e.pr, .int .i64 1, .int .i64 e.ix] 42) (.cells #[.int .i64 (k : Int), .int .i64 e.pr, .int .i64 1, .int .i64 e.ix] 42))).trans hF6) (by decide), hz2⟩, HS.out.ok⟩)
      clear hF6 hF7
      go_roundw
      case rel => exact ⟨k + 1, a6, c6, by omega, by go_num, rfl, hidOf (by have h9 := HO6.out; rw [owK_succ, fl4_snoc, HOE.out]; exact h9), HS7, hidOf (fun q hq => by
          subst hq
          rcases HV6.out with h9 | h9
          · cases av with
            | none => cases h9
            | some av => have h8 := HD.out _ rfl; have h7 : q.block = av.block := Option.some.inj h9; omega
          · have h7 : q.block = ((wr.alloc (.cells #[.int .i64 (k : Int), .int .i64 e.pr, .int .i64 1, .int .i64 e.ix] 42)).alloc (.cells #[.int .i64 (k : Int), .int .i64 e.pr, .int .i64 1, .int .i64 e.ix] 42)).heap.size := Option.some.inj h9
            have h6 := HF.out.size
            rw [World.size_alloc, World.size_alloc] at h7
            omega), hidOf (HF.out.trans HF7.out)⟩
      case measure => simp [intOf]; omega
    · obtain rfl : k = es.length := by omega
      have hltz : ¬ (es.length : Int) < (es.length : Int) := by omega
      obtain ⟨a9, c9, hv9, hev⟩ := ev_own (es := es) (n := es.length) HO.out w.heap.size
      obtain ⟨rfl, rfl⟩ : av = a9 ∧ cv = c9 := by cases hv9; exact ⟨rfl, rfl⟩
      have HU := hidOf (s_upd HS.out av cv (owK es es.length) hev (by rw [owK_len]; omega) (by rw [owK_len]; simp; omega))
      rw [owK_len, up_own] at HU
      clear hv9 hev
      go_wp2_with (go_at_call 9; refine HU.out.mono ?_; rintro e w4 ⟨rfl, h1, h3, h2⟩; have hw4 : w.heap.size ≤ w4.heap.size := (Nat.le_trans HF.out.size h2.size); have HS4 := hidOf (h1.grow (below1 w4 (.cells #[.int .i64 0, .int .i64 0, .int .i64 0, .int .i64 0] 42))); have hq7 := heap_alloc_new w4 (.cells #[.int .i64 0, .int .i64 0, .int .i64 0, .int .i64 0] 42); have HQ7 := hidOf hq7; have HF4 := hidOf ((HF.out.trans (h2.mono (by decide))).trans (FrT.of_below (below1 w4 (.cells #[.int .i64 0, .int .i64 0, .int .i64 0, .int .i64 0] 42)))); clear h1 h2 h3 hq7 HU)
      obtain ⟨q7, hq7⟩ : ∃ y, y = w4.heap.size := ⟨_, rfl⟩
      rw [← hq7] at HQ7 ⊢
      have HQE := hidOf hq7
      have hwq : w.heap.size ≤ q7 := by rw [hq7]; exact hw4
      clear hq7
      go_loopw [8] (fun i wr => ∃ (k : Nat) (R : List Itm) (x : Itm), k ≤ es.length ∧ i = .int .i64 (k : Int) ∧ Hid (Sta w.heap.size wr p R ((0 : Nat) + es.length)) ∧ Hid (R.length + k = es.length) ∧ Hid (∀ z ∈ R, fr z = true) ∧ Hid (∀ z ∈ R, z.tk = false) ∧ Hid (0 < k → Aft x.pr x.ix R) ∧ Hid (wr.heap[q7]? = some (.cells #[.int .i64 x.jb, .int .i64 x.pr, .int .i64 x.st, .int .i64 x.ix] 42 (0, 0))) ∧ Hid (FrT w.heap.size (42 :: TB) w wr)) (fun i _ => es.length - (intOf i).toNat)
      case atStart => exact ⟨0, nwK es es.length, default, Nat.zero_le _, rfl, HS4, hidOf (by rw [nwK_len]; rfl), hidOf (fun z hz => by obtain ⟨i, _, rfl⟩ := nwK_jb hz; rfl), hidOf (fun z hz => by obtain ⟨i, _, rfl⟩ := nwK_jb hz; rfl), hidOf (fun h => absurd h (by omega)), HQ7, HF4⟩
      case round =>
        obtain ⟨k, R, y, hk, rfl, HS5, HR5, HFR, HTK, HAF, HQ5, HF5⟩ := hrel
        clear HS4 HQ7 HF4 HQE
        by_cases hlt : k < es.length
        · have hlz : (k : Int) < (es.length : Int) := by omega
          have hne : R ≠ [] := fun e => by have := HR5.out; rw [e] at this; simp at this; omega
          obtain ⟨z0, hz0⟩ := List.exists_mem_of_ne_nil R hne
          have HD := hidOf (s_deq_yes HS5.out 7 (heldM_none HTK.out) hz0 (HFR.out z0 hz0) (by omega))
          simp only [evV] at HD
          clear hne hz0
          go_upto_region 20 with (first
            | (go_at_call 11; refine HD.out.mono ?_; rintro e w6 ⟨i, x, hm, rfl, h1, h2⟩; have HM := hidOf hm; have HS6 := hidOf (h1.grow (below1 w6 (.cells #[.int .i64 x.jb, .int .i64 x.pr, .int .i64 x.st, .int .i64 x.ix] 42))); have hq9 := heap_alloc_new w6 (.cells #[.int .i64 x.jb, .int .i64 x.pr, .int .i64 x.st, .int .i64 x.ix] 42); have HQ9 := hidOf hq9; have HF6 := hidOf ((h2.mono (T' := TB) tp_tb).trans (FrT.of_below (below1 w6 (.cells #[.int .i64 x.jb, .int .i64 x.pr, .int .i64 x.st, .int .i64 x.ix] 42)))); have hq7r : q7 < w6.heap.size := Nat.lt_of_lt_of_le (heap_lt HQ5.out) h2.size; clear h1 h2 hm hq9 HD)
            | (go_at_call 13; refine (s_ack HS6.out 7).mono ?_; rintro e w7 ⟨rfl, h1, h2⟩; rw [if_pos (heldM_set HTK.out HM.out.1).1]; rw [(heldM_set HTK.out HM.out.1).2] at h1; have HS7 := hidOf h1; have HF7 := hidOf (HF6.out.trans (h2.mono (T' := TB) (by decide))); have hq9 := h2.cells HQ9.out (by decide); obtain ⟨g0, g1, g2, g3, _⟩ := box4 hq9; have hq8 := HF7.out.cells HQ5.out (by decide); obtain ⟨k0, k1, k2, k3, k4⟩ := box4 hq8; have HQ8 := hidOf hq8; have hne7 : w6.heap.size ≠ q7 := (by omega); clear h1 h2 hq9 hq8 HS6 HF6 HQ9))
          by_cases hk0 : k = 0
          · have hk1 : decide (0 < k) = false := by simp [hk0]
            have hkz : ¬ (0 : Int) < (k : Int) := by omega
            clear hk0
            go_wp2
            have HFZ : Hid (FrT w.heap.size [42] w7 ((((w7.setCell ⟨q7, 0, none⟩ (.int .i64 x.jb)).setCell ⟨q7, 1, none⟩ (.int .i64 x.pr)).setCell ⟨q7, 2, none⟩ (.int .i64 x.st)).setCell ⟨q7, 3, none⟩ (.int .i64 x.ix))) := hidOf (FrT.set (FrT.set (FrT.set (FrT.set (FrT.refl _ _ _) HQ8.out (by decide) hwq 0 _) (heap_setCell_same _ _ 0 _ 42 _ HQ8.out) (by decide) hwq 1 _) (heap_setCell_same _ _ 1 _ 42 _ (heap_setCell_same _ _ 0 _ 42 _ HQ8.out)) (by decide) hwq 2 _) (heap_setCell_same _ _ 2 _ 42 _ (heap_setCell_same _ _ 1 _ 42 _ (heap_setCell_same _ _ 0 _ 42 _ HQ8.out))) (by decide) hwq 3 _)
            go_roundw
            case rel => exact ⟨k + 1, R.eraseIdx i, x, by omega, by go_num, HS7.out.keepT HFZ.out (by decide) |> hidOf, hidOf (by have h9 := HR5.out; have h8 := (List.getElem?_eq_some_iff.1 HM.out.1).1; rw [List.length_eraseIdx, if_pos h8]; omega), hidOf (fun z hz => HFR.out z ((List.eraseIdx_sublist ..).mem hz)), hidOf (fun z hz => HTK.out z ((List.eraseIdx_sublist ..).mem hz)), hidOf (fun _ => HM.out.aft HFR.out HTK.out), hidOf (heap_setCell_same _ _ 3 _ 42 _ (heap_setCell_same _ _ 2 _ 42 _ (heap_setCell_same _ _ 1 _ 42 _ (heap_setCell_same _ _ 0 _ 42 _ HQ8.out)))), hidOf ((HF5.out.trans (HF7.out.mono (by decide))).trans (HFZ.out.mono (by decide)))⟩
            case measure => simp [intOf]; omega
          · have hk1 : 0 < k := by omega
            have hkz : (0 : Int) < (k : Int) := by omega
            have hle := (HAF.out hk1).le x (List.mem_of_getElem? HM.out.1)
            clear hk0
            have hn1 : ¬ y.pr < x.pr := by omega
            by_cases hpe : x.pr = y.pr
            · have hpb : (x.pr == y.pr) = true := by simp [hpe]
              have hn2 : ¬ x.ix < y.ix := by omega
              clear hle hpe
              go_wp2
              have HFZ : Hid (FrT w.heap.size [42] w7 ((((w7.setCell ⟨q7, 0, none⟩ (.int .i64 x.jb)).setCell ⟨q7, 1, none⟩ (.int .i64 x.pr)).setCell ⟨q7, 2, none⟩ (.int .i64 x.st)).setCell ⟨q7, 3, none⟩ (.int .i64 x.ix))) := hidOf (FrT.set (FrT.set (FrT.set (FrT.set (FrT.refl _ _ _) HQ8.out (by decide) hwq 0 _) (heap_setCell_same _ _ 0 _ 42 _ HQ8.out) (by decide) hwq 1 _) (heap_setCell_same _ _ 1 _ 42 _ (heap_setCell_same _ _ 0 _ 42 _ HQ8.out)) (by decide) hwq 2 _) (heap_setCell_same _ _ 2 _ 42 _ (heap_setCell_same _ _ 1 _ 42 _ (heap_setCell_same _ _ 0 _ 42 _ HQ8.out))) (by decide) hwq 3 _)
              go_roundw
              case rel => exact ⟨k + 1, R.eraseIdx i, x, by omega, by go_num, HS7.out.keepT HFZ.out (by decide) |> hidOf, hidOf (by have h9 := HR5.out; have h8 := (List.getElem?_eq_some_iff.1 HM.out.1).1; rw [List.length_eraseIdx, if_pos h8]; omega), hidOf (fun z hz => HFR.out z ((List.eraseIdx_sublist ..).mem hz)), hidOf (fun z hz => HTK.out z ((List.eraseIdx_sublist ..).mem hz)), hidOf (fun _ => HM.out.aft HFR.out HTK.out), hidOf (heap_setCell_same _ _ 3 _ 42 _ (heap_setCell_same _ _ 2 _ 42 _ (heap_setCell_same _ _ 1 _ 42 _ (heap_setCell_same _ _ 0 _ 42 _ HQ8.out)))), hidOf ((HF5.out.trans (HF7.out.mono (by decide))).trans (HFZ.out.mono (by decide)))⟩
              case measure => simp [intOf]; omega
            · have hpb : (x.pr == y.pr) = false := by simp [hpe]
              clear hle hpe
              go_wp2
              have HFZ : Hid (FrT w.heap.size [42] w7 ((((w7.setCell ⟨q7, 0, none⟩ (.int .i64 x.jb)).setCell ⟨q7, 1, none⟩ (.int .i64 x.pr)).setCell ⟨q7, 2, none⟩ (.int .i64 x.st)).setCell ⟨q7, 3, none⟩ (.int .i64 x.ix))) := hidOf (FrT.set (FrT.set (FrT.set (FrT.set (FrT.refl _ _ _) HQ8.out (by decide) hwq 0 _) (heap_setCell_same _ _ 0 _ 42 _ HQ8.out) (by decide) hwq 1 _) (heap_setCell_same _ _ 1 _ 42 _ (heap_setCell_same _ _ 0 _ 42 _ HQ8.out)) (by decide) hwq 2 _) (heap_setCell_same _ _ 2 _ 42 _ (heap_setCell_same _ _ 1 _ 42 _ (heap_setCell_same _ _ 0 _ 42 _ HQ8.out))) (by decide) hwq 3 _)
              go_roundw
              case rel => exact ⟨k + 1, R.eraseIdx i, x, by omega, by go_num, HS7.out.keepT HFZ.out (by decide) |> hidOf, hidOf (by have h9 := HR5.out; have h8 := (List.getElem?_eq_some_iff.1 HM.out.1).1; rw [List.length_eraseIdx, if_pos h8]; omega), hidOf (fun z hz => HFR.out z ((List.eraseIdx_sublist ..).mem hz)), hidOf (fun z hz => HTK.out z ((List.eraseIdx_sublist ..).mem hz)), hidOf (fun _ => HM.out.aft HFR.out HTK.out), hidOf (heap_setCell_same _ _ 3 _ 42 _ (heap_setCell_same _ _ 2 _ 42 _ (heap_setCell_same _ _ 1 _ 42 _ (heap_setCell_same _ _ 0 _ 42 _ HQ8.out)))), hidOf ((HF5.out.trans (HF7.out.mono (by decide))).trans (HFZ.out.mono (by decide)))⟩
              case measure => simp [intOf]; omega
        · obtain rfl : k = es.length := by omega
          have hlz : ¬ (es.length : Int) < (es.length : Int) := by omega
          have hR0 : R = [] := List.eq_nil_of_length_eq_zero (by have := HR5.out; omega)
          subst hR0
          have HD := hidOf (s_deq_no HS5.out 7 (.inr (fun z hz => absurd hz (by simp))))
          simp only [zeV] at HD
          have HLN := hidOf (fun W (h : Sta w.heap.size W p [] (0 + es.length)) => (s_len h : Calls Try.prog 21 #[.pointer (some ⟨p, 0, none⟩)] W fun e w' => e = .returned (.int .i64 0) ∧ w' = W))
          go_wp2_with (first
            | (go_at_call 11; refine HD.out.mono ?_; rintro e w6 ⟨rfl, hb6⟩; have HS6 := hidOf ((HS5.out.grow hb6).grow (below1 w6 (.cells #[.int .i64 0, .int .i64 0, .int .i64 0, .int .i64 0] 42))); have HF6 := hidOf ((HF5.out.trans (FrT.of_below hb6)).trans (FrT.of_below (below1 w6 (.cells #[.int .i64 0, .int .i64 0, .int .i64 0, .int .i64 0] 42)))); clear hb6 HD)
            | (go_at_call 21; refine (HLN.out _ HS6.out).mono ?_; rintro e w7 ⟨rfl, h7⟩; subst w7)
            | (go_at_call 22; refine (HLV.out _).mono ?_; rintro e w8 ⟨rfl, hb⟩; have HB := hidOf (HF6.out.trans (FrT.of_below hb)); clear hb))
          go_ret
          exact ⟨rfl, HB.out.below (Nat.le_refl _)⟩
end Go.Proofs.Ytndomlbjdppckaa
