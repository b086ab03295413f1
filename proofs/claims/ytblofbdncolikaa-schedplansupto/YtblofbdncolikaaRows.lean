/-
  No cell of these rows narrows 'for every input' (looked for: loops, veiled, ifaces, maps, wideKeys, modest, calm, conditions, laid).
  DERIVED. THE GIVEN ROWS OF THIS SEAT. 3 by the template 'for every input the law returns true; each argument reads behind the call as it read before'; 0 by the template 'total and deterministic' (their statements: YtblofbdncolikaaTotals.lean).
  GIVEN WITH THE SEED: the statements are not yours to turn. If you find one false, say at which input.
  Laid BY PROGRAM, IN A SANDBOX (cutbox-rows.mjs): the forced cells as the released guide's own fill.sh prints them over the translation b0b4b8584723e2e6… (all of the seat's roots in one cut). By AI agents, Wed Nov 11 2026. No macro, syntax, notation, axiom, sorry.
-/
import Derived.Test.YtblofbdncolikaaChecked
import GoSem.Claim
import GoSem.ClaimJoined
import GoSem.ClaimMapViews
import Derived.JoinedTies
import Derived.KernelRfl
namespace Go.Proofs.Ytblofbdncolikaa
/- THE CELL 'sum', in the pinned program and in every row, IS THE sha256 OF THE DUMP (.gsa) THAT YtblofbdncolikaaProg.lean LOADS. Nothing in Lean hashes anything: it is a label: what it is worth is what the hold of that sum in a sandbox is worth. -/
noncomputable def Try.pinned : Pinned := { name := "ytblofbdncolikaa", sum := "b0b4b8584723e2e6435d4c9ac71c67d87b6d4ffdd2e3ca032640725b47dc83ec", checked := Try.checked }
namespace Rows
def none {H : Type} : Left H := { results := [], args := [] }

/-- 'coxswainlaw14.SchedPlans': WHATEVER THE INPUT: true; the input reads as it did. -/
def schedPlansSpec : ChangeSpec := { name := "schedPlans", fn := fun _ => fun
  | [d1, d2] => { results := [.lit (.bool true)], args := [d1, d2] }
  | _ => none }
def schedPlansRow : OpenClaim := { program := "ytblofbdncolikaa", sum := "b0b4b8584723e2e6435d4c9ac71c67d87b6d4ffdd2e3ca032640725b47dc83ec", func := "coxswain/coxswainlaw14.SchedPlans", spec := "schedPlans", unfollowed := true, recurses := true, plainKeys := false, apart := false }
def SchedPlansSaid : Prop := schedPlansRow.holds Try.pinned (OpenSpec.ofChange schedPlansSpec)

/-- ITS FALSE NEIGHBOUR: 'it returns false'. Refute it at one input. -/
def schedPlansWrong : ChangeSpec := { name := "schedPlans", fn := fun _ => fun
  | [d1, d2] => { results := [.lit (.bool false)], args := [d1, d2] }
  | _ => none }
def SchedPlansWrongFalsely : Prop := schedPlansRow.holds Try.pinned (OpenSpec.ofChange schedPlansWrong)

/-- 'coxswainlaw14.SchedOwns': WHATEVER THE INPUT: true; the input reads as it did. -/
def schedOwnsSpec : ChangeSpec := { name := "schedOwns", fn := fun _ => fun
  | [d1, d2] => { results := [.lit (.bool true)], args := [d1, d2] }
  | _ => none }
def schedOwnsRow : OpenClaim := { program := "ytblofbdncolikaa", sum := "b0b4b8584723e2e6435d4c9ac71c67d87b6d4ffdd2e3ca032640725b47dc83ec", func := "coxswain/coxswainlaw14.SchedOwns", spec := "schedOwns", unfollowed := true, recurses := true, plainKeys := false, apart := false }
def SchedOwnsSaid : Prop := schedOwnsRow.holds Try.pinned (OpenSpec.ofChange schedOwnsSpec)

/-- ITS FALSE NEIGHBOUR: 'it returns false'. Refute it at one input. -/
def schedOwnsWrong : ChangeSpec := { name := "schedOwns", fn := fun _ => fun
  | [d1, d2] => { results := [.lit (.bool false)], args := [d1, d2] }
  | _ => none }
def SchedOwnsWrongFalsely : Prop := schedOwnsRow.holds Try.pinned (OpenSpec.ofChange schedOwnsWrong)

/-- 'coxswainlaw14.SchedOnly': WHATEVER THE INPUT: true; the input reads as it did. -/
def schedOnlySpec : ChangeSpec := { name := "schedOnly", fn := fun _ => fun
  | [d1, d2] => { results := [.lit (.bool true)], args := [d1, d2] }
  | _ => none }
def schedOnlyRow : OpenClaim := { program := "ytblofbdncolikaa", sum := "b0b4b8584723e2e6435d4c9ac71c67d87b6d4ffdd2e3ca032640725b47dc83ec", func := "coxswain/coxswainlaw14.SchedOnly", spec := "schedOnly", unfollowed := true, recurses := true, plainKeys := false, apart := false }
def SchedOnlySaid : Prop := schedOnlyRow.holds Try.pinned (OpenSpec.ofChange schedOnlySpec)

/-- ITS FALSE NEIGHBOUR: 'it returns false'. Refute it at one input. -/
def schedOnlyWrong : ChangeSpec := { name := "schedOnly", fn := fun _ => fun
  | [d1, d2] => { results := [.lit (.bool false)], args := [d1, d2] }
  | _ => none }
def SchedOnlyWrongFalsely : Prop := schedOnlyRow.holds Try.pinned (OpenSpec.ofChange schedOnlyWrong)

/- THE SECOND FORM. 'bulk': how many values and letters a reading holds, each counted each time it is reached (what is shared counts as often as it is met; a slice's spare places count too). A statement '..UptoSaid' is the law's where the arguments, and the package variables that the reading takes, are together of bulk at most 1048576: NARROWER than '..Said'. Prove '..Said' where nothing that the law and all that it calls make is longer than what came in: it says more and counts as full. Else prove '..UptoSaid'. A law counts once. -/
mutual
def uptoBulk {H : Type} : DataW H → Nat
  | .lit (.string bytes) => bytes.length + 1
  | .lit _ => 1
  | .nil => 1
  | .ptr d => uptoBulk d + 1
  | .slice elems spare => uptoBulkAll elems + uptoBulkAll spare + 1
  | .agg parts => uptoBulkAll parts + 1
  | .iface _ d => uptoBulk d + 1
  | .map entries => uptoBulkEntries entries + 1
  | .held _ => 1
def uptoBulkAll {H : Type} : List (DataW H) → Nat
  | [] => 0
  | d :: r => uptoBulk d + uptoBulkAll r
def uptoBulkEntries {H : Type} : List (Lit × DataW H) → Nat
  | [] => 0
  | x :: r => uptoBulkEntry x + uptoBulkEntries r
def uptoBulkEntry {H : Type} : Lit × DataW H → Nat
  | (.string bytes, d) => bytes.length + uptoBulk d + 1
  | (_, d) => uptoBulk d + 1
 end
def uptoSmall : (H : Type) → List (DataW H) → Bool := fun _ ds => decide (uptoBulkAll ds ≤ 1048576)
def OpenSpec.upto (s : _root_.Go.ChangeSpec) : _root_.Go.OpenSpec := { _root_.Go.OpenSpec.ofChange s with cond := some uptoSmall }

/-- 'coxswainlaw14.SchedPlans', WHERE WHAT IT READS IS OF BULK AT MOST 1048576: true; the input reads as it did. -/
def schedPlansUptoRow : OpenClaim := { program := "ytblofbdncolikaa", sum := "b0b4b8584723e2e6435d4c9ac71c67d87b6d4ffdd2e3ca032640725b47dc83ec", func := "coxswain/coxswainlaw14.SchedPlans", spec := "schedPlans", unfollowed := true, recurses := true, plainKeys := false, apart := false, narrowed := true }
def SchedPlansUptoSaid : Prop := schedPlansUptoRow.holds Try.pinned (OpenSpec.upto schedPlansSpec)

/-- 'coxswainlaw14.SchedOwns', WHERE WHAT IT READS IS OF BULK AT MOST 1048576: true; the input reads as it did. -/
def schedOwnsUptoRow : OpenClaim := { program := "ytblofbdncolikaa", sum := "b0b4b8584723e2e6435d4c9ac71c67d87b6d4ffdd2e3ca032640725b47dc83ec", func := "coxswain/coxswainlaw14.SchedOwns", spec := "schedOwns", unfollowed := true, recurses := true, plainKeys := false, apart := false, narrowed := true }
def SchedOwnsUptoSaid : Prop := schedOwnsUptoRow.holds Try.pinned (OpenSpec.upto schedOwnsSpec)

/-- 'coxswainlaw14.SchedOnly', WHERE WHAT IT READS IS OF BULK AT MOST 1048576: true; the input reads as it did. -/
def schedOnlyUptoRow : OpenClaim := { program := "ytblofbdncolikaa", sum := "b0b4b8584723e2e6435d4c9ac71c67d87b6d4ffdd2e3ca032640725b47dc83ec", func := "coxswain/coxswainlaw14.SchedOnly", spec := "schedOnly", unfollowed := true, recurses := true, plainKeys := false, apart := false, narrowed := true }
def SchedOnlyUptoSaid : Prop := schedOnlyUptoRow.holds Try.pinned (OpenSpec.upto schedOnlySpec)

end Rows
end Go.Proofs.Ytblofbdncolikaa
