/- The indexes of a group, one by one: the code's two inner iterators. -/
import Derived.Test.YtaaodmagchpnbaaXq
namespace Go.Proofs.Ytaaodmagchpnbaa
open Go.RowKit Go.Shelf
attribute [local go_sem] Oper.semAt_some
def ups (k : Nat) : List Int := (List.range k).map (fun j : Nat => (j : Int))
theorem ups_succ (k : Nat) : ups (k + 1) = ups k ++ [(k : Int)] := by simp [ups, List.range_succ]
theorem ups_len (k : Nat) : (ups k).length = k := by simp [ups]
theorem ups_pre {k n : Nat} (h : k ≤ n) : ups k <+: ups n := by
  obtain ⟨d, rfl⟩ := Nat.exists_eq_add_of_le h
  clear h
  induction d with
  | zero => exact List.prefix_refl _
  | succ d ih => rw [← Nat.add_assoc, ups_succ]; exact ih.trans (List.prefix_append _ _)
def cnN (c : Int) : Nat := (min c 4).toNat
def iC (x : Int) : List Value := [.int .i64 x]
theorem take_snoc {α : Type} (L : List α) (k : Nat) (h : k < L.length) : L.take (k + 1) = L.take k ++ [L[k]] := by rw [List.take_add_one, List.getElem?_eq_getElem h]; rfl
set_option maxHeartbeats 1000000 in
theorem it45 (n Bg : Nat) (c : Int) (Q : Nat → Prop) (w : World) (_hQ : ∀ k, Q k → k < w.heap.size) (hB : Q Bg) (hc : w.cell? ⟨Bg, 0, none⟩ = some (.int .i64 c)) :
    SeqY n 45 #[.pointer (some ⟨Bg, 0, none⟩)] (fun i : Int => #[.int .i64 i]) Q (ups (cnN c)) w := fun l f fx O W hW hf hfx hO hQO hY h0 => by
  have hc' := (World.cell?_of_block (hW.block _ hB)).trans hc
  refine callsIn_of_wp Try.func45 rfl trivial ?_ rfl
  simp only [Try.ntmps45, List.size_toArray, List.length_cons, List.length_nil, Nat.reduceAdd, Nat.reduceSub, Array.replicate_succ, Array.replicate_zero, List.push_toArray, List.append_toArray, List.nil_append, List.cons_append]
  obtain ⟨NN, hNN⟩ : ∃ NN, cnN c = NN := ⟨_, rfl⟩
  have HN := hidOf hNN
  rw [hNN] at hY ⊢
  clear hNN
  gi_wp2
  · gi_loopw [7] (fun i wr => ∃ (k : Nat) (O1 : Nat → Prop), k ≤ NN ∧ i = .int .i64 k ∧ f O1 (ups k) wr ∧ Frm O O1 W wr) (fun i _ => NN - (intOf i).toNat)
    case atStart => exact ⟨0, O, Nat.zero_le _, rfl, h0, Frm.refl hO⟩
    case round =>
      obtain ⟨k, O1, hk, rfl, hf1, hF1⟩ := hrel
      have hsz := hF1.size
      have _hz := hf1
      by_cases hlt : k < NN
      · have hlt2 : (k : Int) < 4 := by have := HN.out; unfold cnN at this; omega
        have hpre : (ups k) ++ [(k : Int)] <+: ups NN := (by rw [← ups_succ]; exact ups_pre hlt)
        obtain ⟨fn, tmps, assign, body, hy, hR⟩ := hY O1 _ (k : Int) wr hf1 hF1.lt hF1 hpre
        try dsimp only at hy
        have HF := hidOf hF1
        have HP := hidOf hpre
        clear hY hF1 hf1 hpre
        gi_wp2
        refine ⟨fun h => (by cases h), hR.mono ?_⟩
        rintro e W3 ⟨O3, hF3, (⟨rfl, hf3⟩ | ⟨rfl, hx3⟩)⟩
        · gi_wp2
          go_roundw
          case rel => exact ⟨k + 1, O3, by omega, by simp, by rw [ups_succ]; exact hf3, HF.out.trans hF3⟩
          case measure => simp [intOf]; omega
        · gi_wp2
          refine bodyPost_ret (results_none rfl _ _ _) rfl ?_
          exact ⟨⟨_, rfl⟩, O3, HF.out.trans hF3, .inr ⟨_, HP.out, hx3⟩⟩
      · have hno : 4 ≤ (k : Int) := by have := HN.out; unfold cnN at this; omega
        have hkl : k = NN := by omega
        subst hkl
        gi_wp2
        go_end0
        exact ⟨⟨_, rfl⟩, O1, hF1, .inl (by simpa using hf1)⟩
  · gi_loopw [7] (fun i wr => ∃ (k : Nat) (O1 : Nat → Prop), k ≤ NN ∧ i = .int .i64 k ∧ f O1 (ups k) wr ∧ Frm O O1 W wr) (fun i _ => NN - (intOf i).toNat)
    case atStart => exact ⟨0, O, Nat.zero_le _, rfl, h0, Frm.refl hO⟩
    case round =>
      obtain ⟨k, O1, hk, rfl, hf1, hF1⟩ := hrel
      have hsz := hF1.size
      have _hz := hf1
      by_cases hlt : k < NN
      · have hlt2 : (k : Int) < c := by have := HN.out; unfold cnN at this; omega
        have hpre : (ups k) ++ [(k : Int)] <+: ups NN := (by rw [← ups_succ]; exact ups_pre hlt)
        obtain ⟨fn, tmps, assign, body, hy, hR⟩ := hY O1 _ (k : Int) wr hf1 hF1.lt hF1 hpre
        try dsimp only at hy
        have HF := hidOf hF1
        have HP := hidOf hpre
        clear hY hF1 hf1 hpre
        gi_wp2
        refine ⟨fun h => (by cases h), hR.mono ?_⟩
        rintro e W3 ⟨O3, hF3, (⟨rfl, hf3⟩ | ⟨rfl, hx3⟩)⟩
        · gi_wp2
          go_roundw
          case rel => exact ⟨k + 1, O3, by omega, by simp, by rw [ups_succ]; exact hf3, HF.out.trans hF3⟩
          case measure => simp [intOf]; omega
        · gi_wp2
          refine bodyPost_ret (results_none rfl _ _ _) rfl ?_
          exact ⟨⟨_, rfl⟩, O3, HF.out.trans hF3, .inr ⟨_, HP.out, hx3⟩⟩
      · have hno : c ≤ (k : Int) := by have := HN.out; unfold cnN at this; omega
        have hkl : k = NN := by omega
        subst hkl
        gi_wp2
        go_end0
        exact ⟨⟨_, rfl⟩, O1, hF1, .inl (by simpa using hf1)⟩
set_option maxHeartbeats 1000000 in
theorem it46 (n Bg : Nat) (a : Option Addr) (cap : Nat) (L : List Int) (Q : Nat → Prop) (w : World) (hQ : ∀ k, Q k → k < w.heap.size) (hB : Q Bg) (hc : w.cell? ⟨Bg, 0, none⟩ = some (.slice a L.length cap)) (hL : Fl w Q 1 8 iC a L) :
    SeqY n 46 #[.pointer (some ⟨Bg, 0, none⟩)] (fun i : Int => #[.int .i64 i]) Q L w := fun l f fx O W hW hf hfx hO hQO hY h0 => by
  have hc' := (World.cell?_of_block (hW.block _ hB)).trans hc
  have hlen : L.length ≤ 140737488355328 := by have := hL.bd; omega
  refine callsIn_of_wp Try.func46 rfl trivial ?_ rfl
  simp only [Try.ntmps46, List.size_toArray, List.length_cons, List.length_nil, Nat.reduceAdd, Nat.reduceSub, Array.replicate_succ, Array.replicate_zero, List.push_toArray, List.append_toArray, List.nil_append, List.cons_append]
  gi_wp2
  gi_loopw [7] (fun i wr => ∃ (k : Nat) (O1 : Nat → Prop), k ≤ L.length ∧ i = .int .i64 k ∧ f O1 (L.take k) wr ∧ Frm O O1 W wr) (fun i _ => L.length - (intOf i).toNat)
  case atStart => exact ⟨0, O, Nat.zero_le _, rfl, h0, Frm.refl hO⟩
  case round =>
    obtain ⟨k, O1, hk, rfl, hf1, hF1⟩ := hrel
    have hsz := hF1.size
    have hKr : ∀ b, Q b → wr.heap[b]? = w.heap[b]? := fun b hb => (hF1.same b (Nat.lt_of_lt_of_le (hQ b hb) hW.size) (hQO b hb)).trans (hW.block b hb)
    by_cases hlt : k < L.length
    · obtain ⟨b, off, ha, hQb, hcc⟩ := hL.at k hlt
      subst ha
      have hbl : b < wr.heap.size := Nat.lt_of_lt_of_le (Nat.lt_of_lt_of_le (hQ b hQb) hW.size) hsz
      have c0 : wr.cell? ⟨b, off + k, none⟩ = some (.int .i64 L[k]) := (World.cell?_of_block (hKr b hQb)).trans (by have := hcc 0 _ rfl; simpa using this)
      have hpre : (L.take k) ++ [L[k]] <+: L := (by rw [← take_snoc L k hlt]; exact List.take_prefix _ _)
      obtain ⟨fn, tmps, assign, body, hy, hR⟩ := hY O1 _ L[k] wr hf1 hF1.lt hF1 hpre
      try dsimp only at hy
      have HF := hidOf hF1
      have HP := hidOf hpre
      clear hY hF1 hf1 hpre
      gi_wp2
      refine ⟨fun h => (by cases h), hR.mono ?_⟩
      rintro e W3 ⟨O3, hF3, (⟨rfl, hf3⟩ | ⟨rfl, hx3⟩)⟩
      · gi_wp2
        go_roundw
        case rel => exact ⟨k + 1, O3, by omega, by simp, by rw [take_snoc L k hlt]; exact hf3, HF.out.trans hF3⟩
        case measure => simp [intOf]; omega
      · gi_wp2
        refine bodyPost_ret (results_none rfl _ _ _) rfl ?_
        exact ⟨⟨_, rfl⟩, O3, HF.out.trans hF3, .inr ⟨_, HP.out, hx3⟩⟩
    · skip
      have hkl : k = L.length := by omega
      subst hkl
      gi_wp2
      go_end0
      exact ⟨⟨_, rfl⟩, O1, hF1, .inl (by simpa using hf1)⟩
end Go.Proofs.Ytaaodmagchpnbaa
