/- Newer, New, mayCome, Compact. -/
import Derived.Test.YtdkmlgkljhhokaaLgs
namespace Go.Proofs.Ytdkmlgkljhhokaa
open Go.RowKit

def Sp (p : Nat) (v : Value) : Nat → Prop := fun k => k = p ∨ v.ownBlock = some k
/- a row's end may be new -/
def Nx (w : World) (v v' : Value) : Prop := ∀ k, v'.ownBlock = some k → v.ownBlock = some k ∨ w.heap.size ≤ k
theorem Nx.refl (w : World) (v : Value) : Nx w v v := fun _ h => .inl h
section
variable {w0 w : World} {p : Nat} {M : Lg} {v : Value}
theorem newer_any (h : LgR w0 w 72 p M v) (i t : Int) : Calls Try.prog 30 #[.pointer (some ⟨p, 0, none⟩), .int .i64 i, .int .i64 t] w fun e w' => e = .returned (.bool (newerB M i t)) ∧ Dr w w' := by
  have HL := hidOf (last_any h)
  have HN : Hid (newerB M i t = (decide (lastT M < t) || (decide (t = lastT M) && decide (lastI M ≤ i)))) := hidOf rfl
  rw [HN.out]
  clear h HN
  generalize lastI M = li at *
  generalize lastT M = lt at *
  by_cases h1 : lt < t
  · go_enter Try.func30, Try.ntmps30
    go_wp2_with (go_at_call 16; refine HL.out.mono ?_; rintro e w1 ⟨rfl, nq, rfl⟩)
    go_ret
    exact ⟨by simp [h1], by first | exact Dr.refl _ | exact (Dr.refl _).dn _⟩
  · by_cases h2 : t = lt
    · subst h2
      go_enter Try.func30, Try.ntmps30
      go_wp2_with (go_at_call 16; refine HL.out.mono ?_; rintro e w1 ⟨rfl, nq, rfl⟩)
      go_ret
      exact ⟨by simp, by first | exact Dr.refl _ | exact (Dr.refl _).dn _⟩
    · have h3 : (t == lt) = false := beq_false_of_ne h2
      go_enter Try.func30, Try.ntmps30
      go_wp2_with (go_at_call 16; refine HL.out.mono ?_; rintro e w1 ⟨rfl, nq, rfl⟩)
      go_ret
      exact ⟨by simp [h2], by first | exact Dr.refl _ | exact (Dr.refl _).dn _⟩
end
/- isNumber, New -/
def isN (n : Int) : Bool := decide (0 ≤ n) && decide (n ≤ 1099511627776)
theorem isNumber_any (n : Int) (w : World) : Calls Try.prog 23 #[.int .i64 n] w fun e w' => e = .returned (.bool (isN n)) ∧ w' = w := by
  unfold isN
  by_cases h1 : 0 ≤ n
  · go_enter Try.func23, Try.ntmps23
    go_wp2
    go_ret
    exact ⟨by simp [h1], rfl⟩
  · go_enter Try.func23, Try.ntmps23
    go_wp2
    go_ret
    exact ⟨by rw [show decide (0 ≤ n) = false from decide_eq_false (by omega)]; rfl, rfl⟩
def newB (i t : Int) : Bool := isN i && isN t && (decide (i = 0) == decide (t = 0))
theorem new_no (i t : Int) (w : World) (h : newB i t = false) : Calls Try.prog 9 #[.int .i64 i, .int .i64 t] w fun e w' => e = .returned (.pointer none) ∧ w' = w := by
  have HI := hidOf (isNumber_any i w)
  have HT := hidOf (isNumber_any t w)
  cases h1 : isN i with
  | false =>
    rw [h1] at HI
    clear h h1
    go_enter Try.func9, Try.ntmps9
    go_wp2_with (go_at_call 23; refine HI.out.mono ?_; rintro e w1 ⟨rfl, rfl⟩)
    go_ret
    exact ⟨rfl, rfl⟩
  | true =>
    cases h2 : isN t with
    | false =>
      rw [h1] at HI
      rw [h2] at HT
      clear h h1 h2
      go_enter Try.func9, Try.ntmps9
      go_wp2_with (first | (go_at_call 23; refine HI.out.mono ?_; rintro e w1 ⟨rfl, rfl⟩; clear HI) | (go_at_call 23; refine HT.out.mono ?_; rintro e w1 ⟨rfl, rfl⟩))
      go_ret
      exact ⟨rfl, rfl⟩
    | true =>
      rw [h1] at HI
      rw [h2] at HT
      have h3 : (decide (i = 0) == decide (t = 0)) = false := by unfold newB at h; rw [h1, h2] at h; simpa using h
      clear h h1 h2
      by_cases e1 : i = 0
      · have e2 : t ≠ 0 := fun e => by subst e1; subst e; simp at h3
        have e3 : (t == 0) = false := beq_false_of_ne e2
        subst e1
        clear h3
        go_enter Try.func9, Try.ntmps9
        go_wp2_with (first | (go_at_call 23; refine HI.out.mono ?_; rintro e w1 ⟨rfl, rfl⟩; clear HI) | (go_at_call 23; refine HT.out.mono ?_; rintro e w1 ⟨rfl, rfl⟩))
        go_ret
        exact ⟨rfl, rfl⟩
      · have e2 : t = 0 := by
          apply Classical.byContradiction
          intro e
          simp [e1, e] at h3
        have e3 : (i == 0) = false := beq_false_of_ne e1
        subst e2
        clear h3
        go_enter Try.func9, Try.ntmps9
        go_wp2_with (first | (go_at_call 23; refine HI.out.mono ?_; rintro e w1 ⟨rfl, rfl⟩; clear HI) | (go_at_call 23; refine HT.out.mono ?_; rintro e w1 ⟨rfl, rfl⟩))
        go_ret
        exact ⟨rfl, rfl⟩
theorem new_yes (i t : Int) (w : World) (h : newB i t = true) : Calls Try.prog 9 #[.int .i64 i, .int .i64 t] w fun e w' => e = .returned (.pointer (some ⟨w.heap.size, 0, none⟩)) ∧ w' = w.alloc (.cells #[.int .i64 i, .int .i64 t, .slice none 0 0] 72) := by
  have HI := hidOf (isNumber_any i w)
  have HT := hidOf (isNumber_any t w)
  unfold newB at h
  rw [Bool.and_eq_true, Bool.and_eq_true] at h
  obtain ⟨⟨h1, h2⟩, h3⟩ := h
  rw [h1] at HI
  rw [h2] at HT
  clear h1 h2
  by_cases e1 : i = 0
  · have e2 : t = 0 := by
      subst e1
      simpa using h3
    subst e1
    subst e2
    clear h3
    go_enter Try.func9, Try.ntmps9
    go_wp2_with (first | (go_at_call 23; refine HI.out.mono ?_; rintro e w1 ⟨rfl, rfl⟩; clear HI) | (go_at_call 23; refine HT.out.mono ?_; rintro e w1 ⟨rfl, rfl⟩))
    go_ret
    exact ⟨rfl, rfl⟩
  · have e2 : t ≠ 0 := fun e => by subst e; simp [e1] at h3
    have e3 : (i == 0) = false := beq_false_of_ne e1
    have e4 : (t == 0) = false := beq_false_of_ne e2
    clear h3 e1 e2
    go_enter Try.func9, Try.ntmps9
    go_wp2_with (first | (go_at_call 23; refine HI.out.mono ?_; rintro e w1 ⟨rfl, rfl⟩; clear HI) | (go_at_call 23; refine HT.out.mono ?_; rintro e w1 ⟨rfl, rfl⟩))
    go_ret
    exact ⟨rfl, rfl⟩
/- mayCome -/
theorem drop_at {D : List En} {k : Nat} {e : En} (h : D[k]? = some e) : D.drop k = e :: D.drop (k + 1) := by
  obtain ⟨hl, rfl⟩ := List.getElem?_eq_some_iff.1 h
  exact List.drop_eq_getElem_cons hl
set_option maxHeartbeats 4000000 in
theorem mayCome_any (w0 w : World) (v : Value) (D : List En) (i t : Int) (h : EsR w0 w v D) (hi : 0 ≤ i ∧ i ≤ 1099511627776) (hl : D.length ≤ 67108864) : Calls Try.prog 36 #[.int .i64 i, .int .i64 t, v] w fun e w' => e = .returned (.bool (mayB i t D)) ∧ w' = w := by
  obtain ⟨va, vc, rfl⟩ := h.form
  have H := hidOf h
  obtain ⟨i0, i1⟩ := hi
  clear h
  go_enter Try.func36, Try.ntmps36
  go_wp2
  go_loopw [1, 11] (fun tv kv wr => ∃ (k : Nat) (t' : Int), k ≤ D.length ∧ kv = .int .i64 (k : Int) ∧ tv = .int .i64 t' ∧ Hid (mayB i t D = mayB (i + k) t' (D.drop k)) ∧ wr = w) (fun _ kv _ => D.length - (intOf kv).toNat)
  case atStart => exact ⟨0, t, Nat.zero_le _, rfl, rfl, hidOf (by simp), rfl⟩
  case round =>
    obtain ⟨k, t', hk, rfl, rfl, HK, hwr⟩ := hrel
    subst wr
    by_cases hlt : k < D.length
    · have hltz : (k : Int) < (D.length : Int) := by omega
      obtain ⟨e, he⟩ : ∃ e, D[k]? = some e := ⟨_, List.getElem?_eq_getElem hlt⟩
      obtain ⟨b, off, cap, c, hv, hb, d0, d1, _, _⟩ := H.out.at he
      cases hv
      have HD : Hid (mayB i t D = (decide (e.ix = i + k + 1) && decide (e.ix ≤ 1099511627776) && decide (t' ≤ e.tm) && decide (e.tm ≤ 1099511627776) && mayB e.ix e.tm (D.drop (k + 1)))) := hidOf (by rw [HK.out, drop_at he]; rfl)
      clear he
      obtain ⟨ix, tm, op, id⟩ := e
      dsimp only at d0 d1 HD
      by_cases h1 : ix = i + 1 + k
      · subst h1
        have hbe : (i + 1 + (k : Int) == i + 1 + (k : Int)) = true := by simp
        by_cases h2 : i + 1 + (k : Int) ≤ 1099511627776
        · by_cases h3 : t' ≤ tm
          · by_cases h4 : tm ≤ 1099511627776
            · have HF : Hid (mayB i t D = mayB (i + ((k + 1 : Nat) : Int)) tm (D.drop (k + 1))) := hidOf (by
                rw [HD.out, show (i + ((k + 1 : Nat) : Int)) = i + 1 + k by push_cast; omega]
                simp [h2, h3, h4]
                omega)
              clear HD
              go_wp2
              go_roundw
              case rel => exact ⟨k + 1, tm, by omega, by go_num, rfl, HF, by first | trivial | rfl⟩
              case measure => simp [intOf]; omega
            · have HF : Hid (mayB i t D = false) := hidOf (by rw [HD.out]; simp [h4])
              clear HD
              go_wp2
              go_ret
              exact ⟨by rw [HF.out]; rfl, rfl⟩
          · have HF : Hid (mayB i t D = false) := hidOf (by rw [HD.out]; simp [h3])
            clear HD
            go_wp2
            go_ret
            exact ⟨by rw [HF.out]; rfl, rfl⟩
        · have HF : Hid (mayB i t D = false) := hidOf (by rw [HD.out]; simp [h2])
          clear HD
          go_wp2
          go_ret
          exact ⟨by rw [HF.out]; rfl, rfl⟩
      · have HF : Hid (mayB i t D = false) := hidOf (by rw [HD.out]; have hne : ¬ ix = i + k + 1 := (by omega); simp [hne])
        have hbe : (ix == i + 1 + (k : Int)) = false := beq_false_of_ne h1
        have hbn : (ix != i + 1 + (k : Int)) = true := by simp [bne, hbe]
        clear HD
        go_wp2
        go_ret
        exact ⟨by rw [HF.out]; rfl, rfl⟩
    · have hltz : ¬ (k : Int) < (D.length : Int) := by omega
      have HF : Hid (mayB i t D = true) := hidOf (by rw [HK.out, List.drop_eq_nil_of_le (by omega)]; rfl)
      go_wp2
      go_ret
      exact ⟨by rw [HF.out]; rfl, rfl⟩
end Go.Proofs.Ytdkmlgkljhhokaa
