/- Append and Put, by the document: all their answers. -/
import Derived.Test.YtkbmfookdhlphaaRwr
namespace Go.Proofs.Ytkbmfookdhlphaa
open Go.RowKit Go.Sort

/- what a call leaves: a disk at another state, or as it was -/
def RoP (w : World) (q : Nat) (M : Md) (a : Option Addr) (cap : Nat) (l : List Fe) (dn : Value) (G : List Ge) (E : Int) (M' : Md) : Ending → World → Prop := fun e w' => e = .returned (.int .i64 E) ∧ ∃ dn' G', RfR w' q (mv E M' M) a cap l dn' G' ∧ Fr w w' (RtF q a l dn G) (RtF q a l dn' G') ∧ Kp82 w w'
section
variable {w : World} {q : Nat} {M : Md} {a : Option Addr} {cap : Nat} {l : List Fe} {dn : Value} {G : List Ge} {E : Int} {M' : Md}
theorem RoP.no (h : RfR w q M a cap l dn G) (hE : E ≠ 0) {w' : World} (hb : Below w.heap.size w w') : RoP w q M a cap l dn G E M' (.returned (.int .i64 E)) w' :=
  ⟨rfl, dn, G, by rw [mv_ne hE]; exact h.grow hb, Fr.of_below hb, Kp82.below hb⟩
theorem RoP.yes {w' : World} {e : Ending} (h : e = .returned (.int .i64 0) ∧ ∃ dn' G', RfR w' q M' a cap l dn' G' ∧ Fr w w' (RtF q a l dn G) (RtF q a l dn' G') ∧ Kp82 w w') : RoP w q M a cap l dn G 0 M' e w' := by
  obtain ⟨h1, dn', G', h2, h3⟩ := h
  exact ⟨h1, dn', G', by rw [mv_0]; exact h2, h3⟩
end
theorem wr0_any (q : Nat) (M : Md) (a : Option Addr) (cap : Nat) (l : List Fe) (dn : Value) (G : List Ge) (w : World) (m : Nat) (h : RfR w q M a cap l dn G) (hr : RcM M m) (s : ByteArray) (hs : s.size ≤ maxLen) (xa : Option Addr) (xc : Nat) (d : List UInt8) (hx : Bs w xa d) : Calls Try.prog 54 #[.pointer (some ⟨q, 0, none⟩), .int .i64 0, .string s, .slice xa d.length xc] w (RoP w q M a cap l dn G (apE s.data.toList d.length M m) (stepM M (.ap s.data.toList d) (max 1 d.length))) := by
  unfold apE
  cases hn : nameL s.data.toList with
  | false =>
    rw [if_neg (by decide)]
    refine (wr0_bad q M a cap l dn G w m h hr s hs xa xc d hx hn).mono ?_
    rintro e w' ⟨rfl, rfl⟩
    exact RoP.no h (by decide) (Below.refl _ _)
  | true =>
    rw [if_pos rfl]
    by_cases hl : M.left = 0
    · rw [if_pos hl]
      refine (wr0_cut q M a cap l dn G w m h hr s hs xa xc d hx hn hl).mono ?_
      rintro e w' ⟨rfl, rfl⟩
      exact RoP.no h (by decide) (Below.refl _ _)
    · rw [if_neg hl]
      cases hf : M.files s.data.toList with
      | none =>
        have ec : cOf M.files s.data.toList = [] := by unfold cOf; rw [hf]; rfl
        rw [ec]
        by_cases hm : m < 64
        · by_cases hd : d.length ≤ 1048576
          · rw [if_pos (by unfold roomB; simp; omega)]
            refine (wr0_no_c q M a cap l dn G w m h hr s hs xa xc d hx hn hl hf hm hd).mono ?_
            intro e w' hp; exact RoP.yes hp
          · rw [if_neg (by unfold roomB; simp; omega)]
            refine (wr0_no_b q M a cap l dn G w m h hr s hs xa xc d hx hn hl hf hm (by omega)).mono ?_
            rintro e w' ⟨rfl, hb⟩
            exact RoP.no h (by decide) hb
        · rw [if_neg (by unfold roomB; simp; omega)]
          refine (wr0_no_a q M a cap l dn G w m h hr s hs xa xc d hx hn hl hf (by omega)).mono ?_
          rintro e w' ⟨rfl, hb⟩
          exact RoP.no h (by decide) hb
      | some d0 =>
        have ec : cOf M.files s.data.toList = d0 := by unfold cOf; rw [hf]; rfl
        rw [ec]
        by_cases hd : d0.length + d.length ≤ 1048576
        · rw [if_pos (by unfold roomB; simp; omega)]
          refine (wr0_yes_c q M a cap l dn G w m h hr s hs xa xc d hx hn hl d0 hf hd).mono ?_
          intro e w' hp; exact RoP.yes hp
        · rw [if_neg (by unfold roomB; simp; omega)]
          refine (wr0_yes_b q M a cap l dn G w m h hr s hs xa xc d hx hn hl d0 hf (by omega)).mono ?_
          rintro e w' ⟨rfl, hb⟩
          exact RoP.no h (by decide) hb
theorem wr1_any (q : Nat) (M : Md) (a : Option Addr) (cap : Nat) (l : List Fe) (dn : Value) (G : List Ge) (w : World) (m : Nat) (h : RfR w q M a cap l dn G) (hr : RcM M m) (s : ByteArray) (hs : s.size ≤ maxLen) (xa : Option Addr) (xc : Nat) (d : List UInt8) (hx : Bs w xa d) : Calls Try.prog 54 #[.pointer (some ⟨q, 0, none⟩), .int .i64 1, .string s, .slice xa d.length xc] w (RoP w q M a cap l dn G (ptE s.data.toList d.length M m) (stepM M (.pt s.data.toList d) 1)) := by
  unfold ptE
  cases hn : nameL s.data.toList with
  | false =>
    rw [if_neg (by decide)]
    refine (wr1_bad q M a cap l dn G w m h hr s hs xa xc d hx hn).mono ?_
    rintro e w' ⟨rfl, rfl⟩
    exact RoP.no h (by decide) (Below.refl _ _)
  | true =>
    rw [if_pos rfl]
    by_cases hl : M.left = 0
    · rw [if_pos hl]
      refine (wr1_cut q M a cap l dn G w m h hr s hs xa xc d hx hn hl).mono ?_
      rintro e w' ⟨rfl, rfl⟩
      exact RoP.no h (by decide) (Below.refl _ _)
    · rw [if_neg hl]
      cases hf : M.files s.data.toList with
      | none =>
        by_cases hm : m < 64
        · by_cases hd : d.length ≤ 1048576
          · rw [if_pos (by unfold roomB; simp; omega)]
            refine (wr1_no_c q M a cap l dn G w m h hr s hs xa xc d hx hn hl hf hm hd).mono ?_
            intro e w' hp; exact RoP.yes hp
          · rw [if_neg (by unfold roomB; simp; omega)]
            refine (wr1_no_b q M a cap l dn G w m h hr s hs xa xc d hx hn hl hf hm (by omega)).mono ?_
            rintro e w' ⟨rfl, hb⟩
            exact RoP.no h (by decide) hb
        · rw [if_neg (by unfold roomB; simp; omega)]
          refine (wr1_no_a q M a cap l dn G w m h hr s hs xa xc d hx hn hl hf (by omega)).mono ?_
          rintro e w' ⟨rfl, hb⟩
          exact RoP.no h (by decide) hb
      | some d0 =>
        by_cases hd : d.length ≤ 1048576
        · rw [if_pos (by unfold roomB; simp; omega)]
          refine (wr1_yes_c q M a cap l dn G w m h hr s hs xa xc d hx hn hl d0 hf hd).mono ?_
          intro e w' hp; exact RoP.yes hp
        · rw [if_neg (by unfold roomB; simp; omega)]
          refine (wr1_yes_b q M a cap l dn G w m h hr s hs xa xc d hx hn hl d0 hf (by omega)).mono ?_
          rintro e w' ⟨rfl, hb⟩
          exact RoP.no h (by decide) hb
set_option maxHeartbeats 4000000 in
theorem rappend_any (q : Nat) (M : Md) (a : Option Addr) (cap : Nat) (l : List Fe) (dn : Value) (G : List Ge) (w : World) (m : Nat) (h : RfR w q M a cap l dn G) (hr : RcM M m) (s : ByteArray) (hs : s.size ≤ maxLen) (xa : Option Addr) (xc : Nat) (d : List UInt8) (hx : Bs w xa d) : Calls Try.prog 25 #[.pointer (some ⟨q, 0, none⟩), .string s, .slice xa d.length xc] w (RoP w q M a cap l dn G (apE s.data.toList d.length M m) (stepM M (.ap s.data.toList d) (max 1 d.length))) := by
  have HC := hidOf (wr0_any q M a cap l dn G w m h hr s hs xa xc d hx)
  clear h hr hx hs
  go_enter Try.func25, Try.ntmps25
  go_wp2_with (go_at_call 54; refine HC.out.mono ?_; rintro e w' ⟨rfl, hp⟩; have HR := hidOf hp; clear hp)
  go_ret
  exact ⟨rfl, HR.out⟩
set_option maxHeartbeats 4000000 in
theorem rput_any (q : Nat) (M : Md) (a : Option Addr) (cap : Nat) (l : List Fe) (dn : Value) (G : List Ge) (w : World) (m : Nat) (h : RfR w q M a cap l dn G) (hr : RcM M m) (s : ByteArray) (hs : s.size ≤ maxLen) (xa : Option Addr) (xc : Nat) (d : List UInt8) (hx : Bs w xa d) : Calls Try.prog 26 #[.pointer (some ⟨q, 0, none⟩), .string s, .slice xa d.length xc] w (RoP w q M a cap l dn G (ptE s.data.toList d.length M m) (stepM M (.pt s.data.toList d) 1)) := by
  have HC := hidOf (wr1_any q M a cap l dn G w m h hr s hs xa xc d hx)
  clear h hr hx hs
  go_enter Try.func26, Try.ntmps26
  go_wp2_with (go_at_call 54; refine HC.out.mono ?_; rintro e w' ⟨rfl, hp⟩; have HR := hidOf hp; clear hp)
  go_ret
  exact ⟨rfl, HR.out⟩
end Go.Proofs.Ytkbmfookdhlphaa
