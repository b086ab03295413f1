/- A region that draws its order, within a round, by what holds of it outside. -/
import Derived.Test.YtaaodmagchpnbaaXy
import Derived.Sort.QuietThIn
namespace Go.Proofs.Ytaaodmagchpnbaa
open Go.RowKit Go.Shelf
def noDef (o : Oper) : Bool := match o.op with
  | .defer _ => false
  | _ => true
theorem op_rnd {l n : Nat} {P : Program} {o : Oper} {a : Act} {w : World} {K K' : Act → World → Prop} {Q : Exit → Act → World → Prop} (hK : ∀ a w, K a w → K' a w) (ho : noDef o = true) (h : o.wp P a w K Q) : o.wpIn (Fence.wide.inRound l) n P a w K' Q := by
  refine ⟨fun _ _ => trivial, ?_⟩
  have hd : ∀ c, o.op ≠ .defer c := fun c e => by unfold noDef at ho; rw [e] at ho; cases ho
  unfold Oper.wp at h
  rw [Oper.semAt_eq _ _ _ hd]
  cases hx : (execOp a.eval o).run P w with
  | ok v w' =>
    rw [hx] at h
    cases v with
    | value v => exact hK _ _ h
    | skip => exact hK _ _ h
    | defer d => exact hK _ _ h
    | enter f args =>
      refine ⟨fun h' => (by cases h'), ?_⟩
      refine (callsIn_wide.2 h).mono ?_
      intro e w2 he
      cases e with
      | returned v => exact hK _ _ he
      | panicked c => exact he
      | outgrown => exact he
    | row r args =>
      refine ⟨fun h' => (by cases h'), fun c cs _ => ?_⟩
      obtain ⟨v, w2, r2, s⟩ := h c cs
      exact ⟨v, w2, hK _ _ r2, stepsIn_wide.2 s⟩
    | _ => exact h.elim
  | halt hh w' =>
    rw [hx] at h
    cases hh <;> first | exact h | exact h.elim
theorem any_rnd {l n : Nat} {P : Program} {md : Region.Mode} {ops : Array Oper} {Q : Exit → Act → World → Prop} (hok : ops.all noDef = true) (hLO : ¬ LetsOut Q) : ∀ (fuel : Nat) (listed : Array Bool) (a : Act) (w : World), wpAny P md ops Q fuel listed a w → wpAnyIn (Fence.wide.inRound l) n P md ops Q fuel listed a w
  | 0, _, _, _, h => h
  | fuel + 1, listed, a, w, h => by
    refine ⟨h.1, fun i hi => ?_⟩
    have h2 := h.2 i hi
    unfold wpOp at h2
    unfold wpOpIn
    cases ho : ops[i]? with
    | none => rw [ho] at h2; exact any_rnd hok hLO fuel _ _ _ h2
    | some o =>
      rw [ho] at h2
      simp only at h2 ⊢
      have hko : noDef o = true := by
        obtain ⟨hlt, e⟩ := Array.getElem?_eq_some_iff.1 ho
        rw [← e]
        exact (Array.all_eq_true.1 hok) i hlt
      by_cases hw : Region.wanted o (yielded ops a.tmps) = true
      · rw [if_pos hw] at h2 ⊢
        rcases h2 with h2 | h2
        · exact op_rnd (fun a w h => any_rnd hok hLO fuel _ a w h) hko h2
        · exact absurd h2.2 hLO
      · rw [if_neg hw] at h2 ⊢
        exact ⟨fun _ _ => trivial, any_rnd hok hLO fuel _ _ _ h2⟩
theorem wpIn_held_rnd {l id n : Nat} {P : Program} {ops : Array Oper} {Q : Exit → Act → World → Prop} {a : Act} {w : World} {S : World → Prop} (hok : ops.all noDef = true) (hLO : ¬ LetsOut Q) (hm : P.follows .mixedOrders = true) (hS : S w.drew)
    (h : S w.drew → wpAnyH P .any ops Q S ops.size (Array.replicate ops.size false) a w.drew) : (Code.region id ops true).wpIn (Fence.wide.inRound l) n P Q a w :=
  wpIn_region_any hm (any_rnd hok hLO _ _ _ _ (wpAny_of_held _ _ _ _ (h hS)))
end Go.Proofs.Ytaaodmagchpnbaa
