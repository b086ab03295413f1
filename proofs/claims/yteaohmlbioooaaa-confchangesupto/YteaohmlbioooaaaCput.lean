/- The document's own, put, without, Members. -/
import Derived.Test.YteaohmlbioooaaaCsam
import Derived.Test.YteaohmlbioooaaaCmem
import Derived.Deep.Cut
namespace Go.Proofs.Yteaohmlbioooaaa
open Go.RowKit

set_option maxHeartbeats 1000000 in
theorem own_any (w : World) (a : Option Addr) (l : List Int) (cap : Nat) (h : Ints w a l) : Calls Try.prog 45 #[.slice a l.length cap] w fun e w' => ∃ v, e = .returned v ∧ Row w' w.heap.size v l ∧ Below w.heap.size w w' := by
  have HI := hidOf h
  have HL : Hid (([] : List Int).length + l.length ≤ 17592186044416) := hidOf (by have := h.len; simp; omega)
  clear h
  go_enter Try.func45, Try.ntmps45
  go_wp2_with (at_builtin; refine wpList_app w rfl (.tmp 4) (.tmp 5) rfl w.heap.size (.slice none 0 0) [] rfl (Row.nil _ _) a cap l rfl HI.out HL.out (Nat.le_refl _) ?next)
  case next =>
    intro v w1 hr hg _
    have HR := hidOf hr
    have HB := hidOf (grown_below (Row.nil w w.heap.size) hg (Nat.le_refl _))
    clear hr hg
    go_wp2
    go_ret
    exact ⟨v, rfl, HR.out, HB.out⟩
/- a list, and what its slice has room for -/
structure Sli (w : World) (a : Option Addr) (l : List Int) (cap : Nat) : Prop where
  i : Ints w a l
  c : l.length ≤ cap
  n : a = none → cap = 0
theorem Sli.grow {w w' : World} {a : Option Addr} {l : List Int} {cap : Nat} (h : Sli w a l cap) (hb : Below w.heap.size w w') : Sli w' a l cap := ⟨h.i.grow hb, h.c, h.n⟩
theorem Row.sli {w : World} {D : Nat} {v : Value} {l : List Int} (h : Row w D v l) : ∃ a cap, v = .slice a l.length cap ∧ Sli w a l cap := by
  obtain ⟨a, cap, e, hi, hc, _, hn⟩ := h.slice
  exact ⟨a, cap, e, hi, hc, hn⟩
/- what put makes of a rising list -/
structure Put (l : List Int) (n : Int) (r : List Int) : Prop where
  lt : r.Pairwise (· < ·)
  mem : ∀ x, x ∈ r ↔ x ∈ l ∨ x = n
theorem Put.same {l : List Int} {n : Int} (h : l.Pairwise (· < ·)) (hn : n ∈ l) : Put l n l := ⟨h, fun _ => ⟨Or.inl, fun h => h.elim id (fun e => e ▸ hn)⟩⟩
theorem Put.new {l : List Int} {n : Int} {k : Nat} (h : l.Pairwise (· < ·)) (h1 : ∀ j, j < k → nth l j < n) (h2 : ∀ j, k ≤ j → j < l.length → n < nth l j) : Put l n ((l.take k ++ [n]) ++ l.drop k) := by
  refine ⟨?_, fun x => ?_⟩
  · rw [List.append_assoc, List.pairwise_append]
    refine ⟨h.sublist (List.take_sublist _ _), ?_, ?_⟩
    · rw [List.singleton_append, List.pairwise_cons]
      refine ⟨fun x hx => ?_, h.sublist (List.drop_sublist _ _)⟩
      obtain ⟨j, a1, a2, rfl⟩ := mem_drop_nth hx
      exact h2 j a1 a2
    · intro x hx y hy
      obtain ⟨j, a1, a2, rfl⟩ := mem_take_nth hx
      rcases List.mem_append.1 hy with hy | hy
      · rw [List.mem_singleton.1 hy]; exact h1 j a1
      · obtain ⟨i, b1, b2, rfl⟩ := mem_drop_nth hy
        have := h1 j a1; have := h2 i b1 b2; omega
  · rw [List.mem_append, List.mem_append, List.mem_singleton]
    have : x ∈ l ↔ x ∈ l.take k ∨ x ∈ l.drop k := by rw [← List.mem_append, List.take_append_drop]
    rw [this]
    constructor
    · rintro ((h | h) | h)
      · exact Or.inl (Or.inl h)
      · exact Or.inr h
      · exact Or.inl (Or.inr h)
    · rintro ((h | h) | h)
      · exact Or.inl (Or.inl h)
      · exact Or.inr h
      · exact Or.inl (Or.inr h)
theorem Ints.takes {w : World} {a : Option Addr} {l : List Int} (h : Ints w a l) (k : Nat) : Ints w a (l.take k) := by
  refine ⟨by have := h.len; simp; omega, fun hne => ?_⟩
  obtain ⟨b, off, e, hb, hc⟩ := h.cells (fun e => hne (by rw [e]; simp))
  refine ⟨b, off, e, hb, fun j hj => ?_⟩
  simp at hj
  rw [hc j (by omega), nth_get (by omega), nth_get (by simp; omega)]
  simp
theorem Ints.drops {w : World} {b off : Nat} {l : List Int} (h : Ints w (some ⟨b, off, none⟩) l) (k : Nat) : Ints w (some ⟨b, off + k, none⟩) (l.drop k) := by
  refine ⟨by have := h.len; simp; omega, fun hne => ?_⟩
  obtain ⟨b', off', e, hb, hc⟩ := h.cells (fun e => hne (by rw [e]; simp))
  cases e
  refine ⟨b, off + k, rfl, hb, fun j hj => ?_⟩
  simp at hj
  rw [show off + k + j = off + (k + j) by omega, hc (k + j) (by omega), nth_get (by omega), nth_get (by simp; omega)]
  simp
theorem wpList_app2 {ops : Array Oper} {rest : List Oper} {o : Oper} {a : Act} {Q : Exit → Act → World → Prop} (w : World) (hgd : o.guard = none) (s x : Operand) (ho : o.op = .call { callee := .builtin .append, args := #[s, x], argTypes := #[22, 22] })
    (D : Nat) (v : Value) (l : List Int) (hs : a.eval s = v) (hr : Row w D v l) (ax : Option Addr) (m cx : Nat) (k : List Int) (hx : a.eval x = .slice ax m cx) (hm : k.length = m) (hk : Ints w ax k) (hlen : l.length + k.length ≤ 17592186044416) (hD : D ≤ w.heap.size)
    (h : ∀ v' w', Row w' D v' (l ++ k) → w.grownBy w' v.ownBlock → (v'.ownBlock = v.ownBlock ∨ v'.ownBlock = some w.heap.size) → wpList Try.prog ops Q rest (a.put o.dst v') w') : wpList Try.prog ops Q (o :: rest) a w := by
  subst hm
  exact wpList_app w hgd s x ho D v l hs hr ax cx k hx hk hlen hD h
theorem build_len {l : List Int} {k : Nat} (n : Int) (h : k ≤ l.length) : ((l.take k ++ [n]) ++ l.drop k).length = l.length + 1 := by simp; omega
set_option maxHeartbeats 4000000 in
theorem put_any (w : World) (a : Option Addr) (l : List Int) (cap : Nat) (n : Int) (h : Sli w a l cap) (hs : l.Pairwise (· < ·)) (hl : l.length < 17592186044416) : Calls Try.prog 34 #[.slice a l.length cap, .int .i64 n] w fun e w' => ∃ a' r cap', e = .returned (.slice a' r.length cap') ∧ Sli w' a' r cap' ∧ Put l n r ∧ r.length ≤ l.length + 1 ∧ Below w.heap.size w w' := by
  have HS := hidOf h
  have HP := hidOf hs
  have hc := h.c
  clear h hs
  go_enter Try.func34, Try.ntmps34
  go_wp2
  go_loop [5] (fun i => ∃ k : Nat, i = .int .i64 (k : Int) ∧ k ≤ l.length ∧ Hid (∀ j, j < k → nth l j < n)) (fun i => l.length - (intOf i).toNat)
  case atStart => exact ⟨0, rfl, Nat.zero_le _, hidOf (fun j hj => absurd hj (Nat.not_lt_zero _))⟩
  case round =>
    obtain ⟨k, rfl, hk, HJ⟩ := hrel
    by_cases hlt : k < l.length
    · have hltz : (k : Int) < (l.length : Int) := by omega
      obtain ⟨b, off, rfl, _, hcc⟩ := HS.out.i.at hlt
      have c0 := hcc k hlt
      obtain ⟨x, hx⟩ : ∃ x, x = nth l k := ⟨_, rfl⟩
      rw [← hx] at c0
      have HX := hidOf hx
      clear hcc hx
      by_cases h1 : x < n
      · go_wp2
        go_round
        case rel =>
          refine ⟨k + 1, by go_num, by omega, hidOf (fun j hj => ?_)⟩
          by_cases e : j = k
          · rw [e, ← HX.out]; exact h1
          · exact HJ.out j (by omega)
        case measure => simp [intOf]; omega
      · by_cases h2 : x = n
        · have h2b : (x == n) = true := by rw [beq_iff_eq]; exact h2
          have H2 := hidOf h2
          clear h2
          go_wp2
          go_ret
          exact ⟨_, l, cap, rfl, HS.out, Put.same HP.out (by rw [← H2.out, HX.out]; exact nth_mem hlt), by omega, Below.refl _ _⟩
        · have h2b : (x == n) = false := by rw [beq_eq_false_iff_ne]; exact h2
          have hgt : n < x := by omega
          have HN : Hid (Put l n ((l.take k ++ [n]) ++ l.drop k)) := hidOf (Put.new HP.out HJ.out (fun j a1 a2 => by
            have := sorted_get (HP.out.imp (fun h => Int.le_of_lt h)) a1 a2
            rw [← HX.out] at this
            omega))
          clear h2
          have hkc : k ≤ cap := by omega
          have hkcz : (k : Int) ≤ (cap : Int) := by omega
          have hkc2 : k < cap := by omega
          have hkc3 : (cap == k) = false := by rw [beq_eq_false_iff_ne]; omega
          have hkc4 : ¬ cap = k := by omega
          have HT1 : Hid ((l.take k).length = k) := hidOf (by simp; omega)
          have HL1 : Hid (([] : List Int).length + (l.take k).length ≤ 17592186044416) := hidOf (by simp; omega)
          have HI1 := hidOf (HS.out.i.takes k)
          have HD1 : Hid ((l.drop k).length = l.length - k) := hidOf (by simp)
          go_upto_region 7 with fail
          go_wp2_with (at_builtin; refine wpList_app2 w rfl (.tmp 34) (.tmp 37) rfl w.heap.size (.slice none 0 0) [] rfl (Row.nil _ _) (some ⟨b, off, none⟩) k cap (l.take k) rfl HT1.out HI1.out HL1.out (Nat.le_refl _) ?next1)
          case next1 =>
            intro v1 w1 hr1 hg1 _
            obtain ⟨q, hq⟩ : ∃ q, q = l.take k := ⟨_, rfl⟩
            have hqk : q.length = k := by rw [hq]; exact HT1.out
            have HQ := hidOf hq
            have hr1' : Row w1 w.heap.size v1 q := by rw [hq]; simpa using hr1
            have HR1 := hidOf hr1'
            have HB1 := hidOf (grown_below (Row.nil w w.heap.size) hg1 (Nat.le_refl _))
            have HLQ : Hid (q.length + [n].length ≤ 17592186044416) := hidOf (by simp; omega)
            have hD1 : Hid (w.heap.size ≤ (w1.alloc (.cells #[.int .i64 n] 3)).heap.size) := hidOf (by rw [World.size_alloc]; exact Nat.le_succ_of_le HB1.out.size)
            clear hr1 hr1' hg1 hq
            go_wp2_with (at_builtin; refine wpList_app (w1.alloc (.cells #[.int .i64 n] 3)) rfl (.tmp 39) (.tmp 41) rfl w.heap.size v1 q rfl (HR1.out.grow (below1 w1 _)) (some ⟨w1.heap.size, 0, none⟩) 1 [n] rfl (ints_one w1 n) HLQ.out hD1.out ?next2)
            case next2 =>
              intro v2 w2 hr2 hg2 _
              have HR2 := hidOf hr2
              have HB2 := hidOf (HB1.out.trans (((below1 w1 (.cells #[.int .i64 n] 3)).mono HB1.out.size).trans (grown_below (HR1.out.grow (below1 w1 _)) hg2 hD1.out)))
              have HI2 := hidOf ((HS.out.i.grow HB2.out).drops k)
              have HL2 : Hid ((q ++ [n]).length + (l.drop k).length ≤ 17592186044416) := hidOf (by simp; omega)
              clear hr2 hg2
              go_wp2_with (at_builtin; refine wpList_app2 w2 rfl (.tmp 43) (.tmp 46) rfl w.heap.size v2 (q ++ [n]) rfl HR2.out (some ⟨b, off + k, none⟩) (l.length - k) (cap - k) (l.drop k) rfl HD1.out HI2.out HL2.out HB2.out.size ?next3)
              case next3 =>
                intro v3 w3 hr3 hg3 _
                have HB3 := hidOf (HB2.out.trans (grown_below HR2.out hg3 HB2.out.size))
                have hr3' : Row w3 w.heap.size v3 ((l.take k ++ [n]) ++ l.drop k) := by rw [← HQ.out]; simpa using hr3
                obtain ⟨a3, c3, hv3, hs3⟩ := hr3'.sli
                have HS3 := hidOf hs3
                clear hr3 hg3 hr3' hs3
                subst hv3
                go_wp2
                go_ret
                exact ⟨a3, _, c3, rfl, HS3.out, HN.out, by rw [build_len n hk]; omega, HB3.out⟩
    · obtain rfl : k = l.length := by omega
      have hltz : ¬ (l.length : Int) < (l.length : Int) := by omega
      have HN : Hid (Put l n (l ++ [n])) := hidOf (by
        have := Put.new (k := l.length) (n := n) HP.out HJ.out (fun j a1 a2 => absurd a2 (by omega))
        rw [List.take_length, List.drop_length, List.append_nil] at this
        exact this)
      have HI1 := hidOf HS.out.i
      have HL1 : Hid (([] : List Int).length + l.length ≤ 17592186044416) := hidOf (by simp; omega)
      cases a with
      | none =>
        have hc0 := HS.out.n rfl
        subst hc0
        have hl0 : l.length = 0 := by omega
        obtain rfl := List.eq_nil_of_length_eq_zero hl0
        clear hl0
        go_upto_region 7 with fail
        go_wp2_with (at_builtin; refine wpList_app2 w rfl (.tmp 34) (.tmp 37) rfl w.heap.size (.slice none 0 0) [] rfl (Row.nil _ _) none 0 0 ([] : List Int) rfl rfl HI1.out HL1.out (Nat.le_refl _) ?next1)
        case next1 =>
          intro v1 w1 hr1 hg1 _
          have hr1' : Row w1 w.heap.size v1 [] := by simpa using hr1
          have HR1 := hidOf hr1'
          have HB1 := hidOf (grown_below (Row.nil w w.heap.size) hg1 (Nat.le_refl _))
          have HLQ : Hid (([] : List Int).length + [n].length ≤ 17592186044416) := hidOf (by simp)
          have hD1 : Hid (w.heap.size ≤ (w1.alloc (.cells #[.int .i64 n] 3)).heap.size) := hidOf (by rw [World.size_alloc]; exact Nat.le_succ_of_le HB1.out.size)
          clear hr1 hr1' hg1
          go_wp2_with (at_builtin; refine wpList_app (w1.alloc (.cells #[.int .i64 n] 3)) rfl (.tmp 39) (.tmp 41) rfl w.heap.size v1 [] rfl (HR1.out.grow (below1 w1 _)) (some ⟨w1.heap.size, 0, none⟩) 1 [n] rfl (ints_one w1 n) HLQ.out hD1.out ?next2)
          case next2 =>
            intro v2 w2 hr2 hg2 _
            have HR2 := hidOf hr2
            have HB2 := hidOf (HB1.out.trans (((below1 w1 (.cells #[.int .i64 n] 3)).mono HB1.out.size).trans (grown_below (HR1.out.grow (below1 w1 _)) hg2 hD1.out)))
            have HL2 : Hid (([n] : List Int).length + ([] : List Int).length ≤ 17592186044416) := hidOf (by simp)
            clear hr2 hg2
            go_wp2_with (at_builtin; refine wpList_app2 w2 rfl (.tmp 43) (.tmp 46) rfl w.heap.size v2 [n] rfl HR2.out _ _ _ [] rfl rfl (Ints.nil _ _) HL2.out HB2.out.size ?next3)
            case next3 =>
              intro v3 w3 hr3 hg3 _
              have HB3 := hidOf (HB2.out.trans (grown_below HR2.out hg3 HB2.out.size))
              have hr3' : Row w3 w.heap.size v3 [n] := by simpa using hr3
              obtain ⟨a3, c3, hv3, hs3⟩ := hr3'.sli
              have HS3 := hidOf hs3
              clear hr3 hg3 hr3' hs3
              subst hv3
              go_wp2
              go_ret
              exact ⟨a3, _, c3, rfl, HS3.out, HN.out, by simp, HB3.out⟩
      | some ad =>
        have hkc : l.length ≤ cap := hc
        have hkcz : (l.length : Int) ≤ (cap : Int) := by omega
        by_cases hce : cap = l.length
        · subst hce
          go_upto_region 7 with fail
          go_wp2_with (at_builtin; refine wpList_app2 w rfl (.tmp 34) (.tmp 37) rfl w.heap.size (.slice none 0 0) [] rfl (Row.nil _ _) (some ad) l.length l.length l rfl rfl HI1.out HL1.out (Nat.le_refl _) ?next1)
          case next1 =>
            intro v1 w1 hr1 hg1 _
            have hr1' : Row w1 w.heap.size v1 l := by simpa using hr1
            have HR1 := hidOf hr1'
            have HB1 := hidOf (grown_below (Row.nil w w.heap.size) hg1 (Nat.le_refl _))
            have HLQ : Hid (l.length + [n].length ≤ 17592186044416) := hidOf (by simp; omega)
            have hD1 : Hid (w.heap.size ≤ (w1.alloc (.cells #[.int .i64 n] 3)).heap.size) := hidOf (by rw [World.size_alloc]; exact Nat.le_succ_of_le HB1.out.size)
            clear hr1 hr1' hg1
            go_wp2_with (at_builtin; refine wpList_app (w1.alloc (.cells #[.int .i64 n] 3)) rfl (.tmp 39) (.tmp 41) rfl w.heap.size v1 l rfl (HR1.out.grow (below1 w1 _)) (some ⟨w1.heap.size, 0, none⟩) 1 [n] rfl (ints_one w1 n) HLQ.out hD1.out ?next2)
            case next2 =>
              intro v2 w2 hr2 hg2 _
              have HR2 := hidOf hr2
              have HB2 := hidOf (HB1.out.trans (((below1 w1 (.cells #[.int .i64 n] 3)).mono HB1.out.size).trans (grown_below (HR1.out.grow (below1 w1 _)) hg2 hD1.out)))
              have HL2 : Hid ((l ++ [n]).length + ([] : List Int).length ≤ 17592186044416) := hidOf (by simp; omega)
              clear hr2 hg2
              go_wp2_with (at_builtin; refine wpList_app2 w2 rfl (.tmp 43) (.tmp 46) rfl w.heap.size v2 (l ++ [n]) rfl HR2.out _ _ _ [] rfl rfl (Ints.nil _ _) HL2.out HB2.out.size ?next3)
              case next3 =>
                intro v3 w3 hr3 hg3 _
                have HB3 := hidOf (HB2.out.trans (grown_below HR2.out hg3 HB2.out.size))
                have hr3' : Row w3 w.heap.size v3 (l ++ [n]) := by simpa using hr3
                obtain ⟨a3, c3, hv3, hs3⟩ := hr3'.sli
                have HS3 := hidOf hs3
                clear hr3 hg3 hr3' hs3
                subst hv3
                go_wp2
                go_ret
                exact ⟨a3, _, c3, rfl, HS3.out, HN.out, by simp, HB3.out⟩
        · have hkc3 : (cap == l.length) = false := by rw [beq_eq_false_iff_ne]; exact hce
          go_upto_region 7 with fail
          go_wp2_with (at_builtin; refine wpList_app2 w rfl (.tmp 34) (.tmp 37) rfl w.heap.size (.slice none 0 0) [] rfl (Row.nil _ _) (some ad) l.length cap l rfl rfl HI1.out HL1.out (Nat.le_refl _) ?next1)
          case next1 =>
            intro v1 w1 hr1 hg1 _
            have hr1' : Row w1 w.heap.size v1 l := by simpa using hr1
            have HR1 := hidOf hr1'
            have HB1 := hidOf (grown_below (Row.nil w w.heap.size) hg1 (Nat.le_refl _))
            have HLQ : Hid (l.length + [n].length ≤ 17592186044416) := hidOf (by simp; omega)
            have hD1 : Hid (w.heap.size ≤ (w1.alloc (.cells #[.int .i64 n] 3)).heap.size) := hidOf (by rw [World.size_alloc]; exact Nat.le_succ_of_le HB1.out.size)
            clear hr1 hr1' hg1
            go_wp2_with (at_builtin; refine wpList_app (w1.alloc (.cells #[.int .i64 n] 3)) rfl (.tmp 39) (.tmp 41) rfl w.heap.size v1 l rfl (HR1.out.grow (below1 w1 _)) (some ⟨w1.heap.size, 0, none⟩) 1 [n] rfl (ints_one w1 n) HLQ.out hD1.out ?next2)
            case next2 =>
              intro v2 w2 hr2 hg2 _
              have HR2 := hidOf hr2
              have HB2 := hidOf (HB1.out.trans (((below1 w1 (.cells #[.int .i64 n] 3)).mono HB1.out.size).trans (grown_below (HR1.out.grow (below1 w1 _)) hg2 hD1.out)))
              have HL2 : Hid ((l ++ [n]).length + ([] : List Int).length ≤ 17592186044416) := hidOf (by simp; omega)
              clear hr2 hg2
              go_wp2_with (at_builtin; refine wpList_app2 w2 rfl (.tmp 43) (.tmp 46) rfl w.heap.size v2 (l ++ [n]) rfl HR2.out _ _ _ [] rfl rfl (Ints.nil _ _) HL2.out HB2.out.size ?next3)
              case next3 =>
                intro v3 w3 hr3 hg3 _
                have HB3 := hidOf (HB2.out.trans (grown_below HR2.out hg3 HB2.out.size))
                have hr3' : Row w3 w.heap.size v3 (l ++ [n]) := by simpa using hr3
                obtain ⟨a3, c3, hv3, hs3⟩ := hr3'.sli
                have HS3 := hidOf hs3
                clear hr3 hg3 hr3' hs3
                subst hv3
                go_wp2
                go_ret
                exact ⟨a3, _, c3, rfl, HS3.out, HN.out, by simp, HB3.out⟩

set_option maxHeartbeats 1000000 in
theorem rwithout_any (w : World) (a : Option Addr) (l : List Int) (cap : Nat) (s : Int) (h : Ints w a l) : Calls Try.prog 47 #[.slice a l.length cap, .int .i64 s] w fun e w' => ∃ v, e = .returned v ∧ Row w' w.heap.size v (wto l s) ∧ Below w.heap.size w w' := by
  have HI := hidOf h
  have hlen := h.len
  clear h
  go_enter Try.func47, Try.ntmps47
  go_wp2
  go_loopw [5, 6] (fun vv i wr => ∃ (k : Nat) (v : Value), v = vv ∧ i = .int .i64 (k : Int) ∧ k ≤ l.length ∧ Hid (Row wr w.heap.size v (wto (l.take k) s)) ∧ Hid (Below w.heap.size w wr)) (fun _ i _ => l.length - (intOf i).toNat)
  case atStart => exact ⟨0, _, rfl, rfl, Nat.zero_le _, hidOf (by rw [List.take_zero]; exact Row.nil _ _), hidOf (Below.refl _ _)⟩
  case round =>
    obtain ⟨k, v, rfl, rfl, hk, HR, HB⟩ := hrel
    by_cases hlt : k < l.length
    · have hltz : (k : Int) < (l.length : Int) := by omega
      obtain ⟨b, off, rfl, hbl, hc⟩ := (HI.out.grow HB.out).at hlt
      have c2 := hc k hlt
      have HT := hidOf (wto_take s hlt)
      generalize nth l k = x at c2 HT
      clear hc
      have HD0 : Hid (w.heap.size ≤ wr.heap.size) := hidOf HB.out.size
      have HD : Hid (w.heap.size ≤ (wr.alloc (.cells #[.int .i64 x] 3)).heap.size) := hidOf (by rw [World.size_alloc]; exact Nat.le_succ_of_le HB.out.size)
      by_cases e : x = s
      · have hT := HT.out
        rw [if_pos e, List.append_nil] at hT
        have HT2 := hidOf hT
        have eb : (x == s) = true := by rw [beq_iff_eq]; exact e
        clear hT HT e
        go_wp2
        go_roundw
        case rel => exact ⟨k + 1, _, rfl, by go_num, by omega, hidOf (by rw [HT2.out]; exact HR.out), HB⟩
        case measure => simp [intOf]; omega
      · have hT := HT.out
        rw [if_neg e] at hT
        have HT2 := hidOf hT
        have eb : (x == s) = false := by rw [beq_eq_false_iff_ne]; exact e
        have HL : Hid ((wto (l.take k) s).length + 1 ≤ 17592186044416) := hidOf (wto_len1 l s hlt hlen)
        clear hT HT e
        go_upto_region 6 with fail
        go_wp2_with (at_builtin; refine wpList_app (wr.alloc (.cells #[.int .i64 x] 3)) rfl (.tmp 19) (.tmp 24) rfl w.heap.size v (wto (l.take k) s) rfl (HR.out.grow (below1 wr _)) (some ⟨wr.heap.size, 0, none⟩) 1 [x] rfl (ints_one wr x) HL.out HD.out ?next)
        case next =>
          intro v' w3 hr hg _
          have HB3 := hidOf (HB.out.trans (((below1 wr (.cells #[.int .i64 x] 3)).mono HD0.out).trans (grown_below (HR.out.grow (below1 wr _)) hg HD.out)))
          have HR3 := hidOf hr
          clear hr hg
          go_wp2
          go_roundw
          case rel => exact ⟨k + 1, _, rfl, by go_num, by omega, hidOf (by rw [HT2.out]; exact HR3.out), HB3⟩
          case measure => simp [intOf]; omega
    · obtain rfl : k = l.length := by omega
      have hltz : ¬ (l.length : Int) < (l.length : Int) := by omega
      have hr := HR.out
      rw [List.take_length] at hr
      go_wp2
      go_ret
      exact ⟨v, rfl, hr, HB.out⟩
/- the members so far: those of a list's first k -/
structure Mem (l : List Int) (k : Nat) (base r : List Int) : Prop where
  lt : r.Pairwise (· < ·)
  mem : ∀ x, x ∈ r ↔ x ∈ base ∨ x ∈ l.take k
  len : r.length ≤ base.length + k
theorem Mem.next {l : List Int} {k : Nat} {base r r' : List Int} (h : Mem l k base r) (hk : k < l.length) (hp : Put r (nth l k) r') (hl : r'.length ≤ r.length + 1) : Mem l (k + 1) base r' := by
  refine ⟨hp.lt, fun x => ?_, by have := h.len; omega⟩
  rw [hp.mem, h.mem, take_nth hk, List.mem_append, List.mem_singleton, or_assoc]
set_option maxHeartbeats 4000000 in
theorem rmembers_any (w : World) (av al : Option Addr) (V L : List Int) (cv cl : Nat) (h : Cf w av al V L) (hl : V.length + L.length ≤ 17592186044416) : Calls Try.prog 11 #[.agg #[.slice av V.length cv, .slice al L.length cl]] w fun e w' => ∃ a cap, e = .returned (.slice a (mem V L).length cap) ∧ Ints w' a (mem V L) ∧ Below w.heap.size w w' := by
  have H0 := hidOf (Cs.begin cv cl h)
  have hlv := h.v.len
  have hll := h.l.len
  clear h
  go_enter Try.func11, Try.ntmps11
  go_wp2_with (fail)
  go_loopw [3, 4] (fun vv i wr => ∃ (k : Nat) (a : Option Addr) (r : List Int) (cap : Nat), vv = .slice a r.length cap ∧ i = .int .i64 (k : Int) ∧ k ≤ V.length ∧ Hid (Sli wr a r cap) ∧ Hid (Mem V k [] r) ∧ Hid (Cs w wr w.heap.size av al V L cv cl)) (fun _ i _ => V.length - (intOf i).toNat)
  case atStart => exact ⟨0, none, [], 0, rfl, rfl, Nat.zero_le _, hidOf ⟨Ints.nil _ _, by simp, fun _ => rfl⟩, hidOf ⟨List.Pairwise.nil, fun x => by simp, by simp⟩, H0⟩
  case round =>
    obtain ⟨k, a, r, cap, rfl, rfl, hk, HS, HM, HC⟩ := hrel
    obtain ⟨wq, hwq⟩ : ∃ x, x = wr := ⟨_, rfl⟩
    subst hwq
    have c0 := HC.out.bx.c0
    have c1 := HC.out.bx.c1
    have lt0 := HC.out.bx.lt
    by_cases hlt : k < V.length
    · have hltz : (k : Int) < (V.length : Int) := by omega
      obtain ⟨b, off, rfl, hbl, hc⟩ := HC.out.cf.v.at hlt
      have c2 := hc k hlt
      obtain ⟨x, hx⟩ : ∃ x, x = nth V k := ⟨_, rfl⟩
      rw [← hx] at c2
      have HX := hidOf hx
      have hrl : r.length < 17592186044416 := by have h1 := HM.out.len; have h2 : ([] : List Int).length = 0 := rfl; omega
      have HP := hidOf (put_any wq a r cap x HS.out HM.out.lt hrl)
      clear hc hx hrl
      go_wp2_with (go_at_call 34; refine HP.out.mono ?_; rintro e w2 ⟨a2, r2, k2, rfl, hs2, hp2, hl2, hb⟩; have HS2 := hidOf hs2; have HP2 := hidOf hp2; have HL2 := hidOf hl2; have HC2 := hidOf (HC.out.grow hb); clear hs2 hp2 hl2 hb c0 c1 c2 lt0)
      go_roundw
      case rel => exact ⟨k + 1, a2, r2, k2, rfl, by go_num, by omega, HS2, hidOf (HM.out.next hlt (by rw [← HX.out]; exact HP2.out) HL2.out), HC2⟩
      case measure => simp [intOf]; omega
    · obtain rfl : k = V.length := by omega
      have hltz : ¬ (V.length : Int) < (V.length : Int) := by omega
      go_wp2_with (fail)
      clear c0 c1 lt0
      go_loopw [3, 5] (fun vv i wr => ∃ (k : Nat) (a : Option Addr) (r' : List Int) (cap : Nat), vv = .slice a r'.length cap ∧ i = .int .i64 (k : Int) ∧ k ≤ L.length ∧ Hid (Sli wr a r' cap) ∧ Hid (Mem L k r r') ∧ Hid (Cs w wr w.heap.size av al V L cv cl)) (fun _ i _ => L.length - (intOf i).toNat)
      case atStart => exact ⟨0, a, r, cap, rfl, rfl, Nat.zero_le _, HS, hidOf ⟨HM.out.lt, fun x => by simp, by simp⟩, HC⟩
      case round =>
        obtain ⟨k, a', r', cap', rfl, rfl, hk2, HS', HM', HC'⟩ := hrel
        have c0 := HC'.out.bx.c0
        have c1 := HC'.out.bx.c1
        have lt0 := HC'.out.bx.lt
        by_cases hlt2 : k < L.length
        · have hltz2 : (k : Int) < (L.length : Int) := by omega
          obtain ⟨b, off, rfl, hbl, hc⟩ := HC'.out.cf.l.at hlt2
          have c2 := hc k hlt2
          obtain ⟨x, hx⟩ : ∃ x, x = nth L k := ⟨_, rfl⟩
          rw [← hx] at c2
          have HX := hidOf hx
          have hrl : r'.length < 17592186044416 := by have h1 := HM.out.len; have h3 := HM'.out.len; have h2 : ([] : List Int).length = 0 := rfl; omega
          have HP := hidOf (put_any wr a' r' cap' x HS'.out HM'.out.lt hrl)
          clear hc hx hrl
          go_wp2_with (go_at_call 34; refine HP.out.mono ?_; rintro e w2 ⟨a2, r2, k2, rfl, hs2, hp2, hl2, hb⟩; have HS2 := hidOf hs2; have HP2 := hidOf hp2; have HL2 := hidOf hl2; have HC2 := hidOf (HC'.out.grow hb); clear hs2 hp2 hl2 hb c0 c1 c2 lt0)
          go_roundw
          case rel => exact ⟨k + 1, a2, r2, k2, rfl, by go_num, by omega, HS2, hidOf (HM'.out.next hlt2 (by rw [← HX.out]; exact HP2.out) HL2.out), HC2⟩
          case measure => simp [intOf]; omega
        · obtain rfl : k = L.length := by omega
          have hltz2 : ¬ (L.length : Int) < (L.length : Int) := by omega
          have HE : Hid (r' = mem V L) := hidOf (ext_lt HM'.out.lt (mem_lt V L) (fun x => by
            rw [HM'.out.mem, HM.out.mem, List.take_length, List.take_length, mem_iff]; simp))
          go_wp2
          go_ret
          exact ⟨a', ⟨cap', by rw [← HE.out]; rfl⟩, by rw [← HE.out]; exact HS'.out.i, HC'.out.bel⟩
end Go.Proofs.Yteaohmlbioooaaa
