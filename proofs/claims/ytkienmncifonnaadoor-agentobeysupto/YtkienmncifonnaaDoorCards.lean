/-
  DERIVED. GIVEN WITH THE SEED: THE CARDS: each row of YtkienmncifonnaaDoorRows.lean that lists a variable, with what it lists TIED to the program's text (the seventh form; the later family's looks); each row that meets fmt, with fmt's text TOLD by the authors' own Lean function (tested against real Go, not proved from fmt's source: count such statements apart). THE CARD IS WHAT COUNTS. Prove the row's statement (the work); the ties are given (YtkienmncifonnaaDoorTie.lean); close each card by the builder's one call (the guide's Derived/Test/ToyasCard.lean, 'card_holds'). Laid BY PROGRAM, IN A SANDBOX (cutbox-door.mjs). By AI agents, Wed Nov 11 2026. No macro, syntax, notation, axiom, sorry.
-/
import Derived.Test.YtkienmncifonnaaDoorRows
import GoSem.ClaimSeven
namespace Go.Proofs.YtkienmncifonnaaDoor
namespace Rows

/-- THE TIED CARD OF 'coxswainlaw17.AgentLease'. -/
def agentLeaseCard : Claim7 := { stood := { row := agentLeaseRow, standIns := [], harness := (true, "0561c3c41c29c8e97c5826adeb4b385c8a74c5ea391bb30568fa79530c70e0b1"), looks := true }, kinds := [], alts := [], laidByText := true, laidKinds := [.data, .data, .data, .sentinel, .sentinel], laidTests := true, laidLooks := .later }
def AgentLeaseCardSaid : Prop := Claim7.holds Tryd.pinned (.plain (OpenSpec.ofChange agentLeaseSpec)) agentLeaseCard

/-- THE TIED CARD OF 'coxswainlaw17.AgentObeys'. -/
def agentObeysCard : Claim7 := { stood := { row := agentObeysRow, standIns := [], harness := (true, "0561c3c41c29c8e97c5826adeb4b385c8a74c5ea391bb30568fa79530c70e0b1"), looks := true }, kinds := [], alts := [], laidByText := true, laidKinds := [.data, .data, .data, .sentinel, .sentinel], laidTests := true, laidLooks := .later }
def AgentObeysCardSaid : Prop := Claim7.holds Tryd.pinned (.plain (OpenSpec.ofChange agentObeysSpec)) agentObeysCard

/-- THE SECOND FORM's CARD OF 'coxswainlaw17.AgentLease'. -/
def agentLeaseUptoCard : Claim7 := { stood := { row := agentLeaseUptoRow, standIns := [], harness := (true, "0561c3c41c29c8e97c5826adeb4b385c8a74c5ea391bb30568fa79530c70e0b1"), looks := true }, kinds := [], alts := [], laidByText := true, laidKinds := [.data, .data, .data, .sentinel, .sentinel], laidTests := true, laidLooks := .later }
def AgentLeaseUptoCardSaid : Prop := Claim7.holds Tryd.pinned (.plain (OpenSpec.upto agentLeaseSpec)) agentLeaseUptoCard

/-- THE SECOND FORM's CARD OF 'coxswainlaw17.AgentObeys'. -/
def agentObeysUptoCard : Claim7 := { stood := { row := agentObeysUptoRow, standIns := [], harness := (true, "0561c3c41c29c8e97c5826adeb4b385c8a74c5ea391bb30568fa79530c70e0b1"), looks := true }, kinds := [], alts := [], laidByText := true, laidKinds := [.data, .data, .data, .sentinel, .sentinel], laidTests := true, laidLooks := .later }
def AgentObeysUptoCardSaid : Prop := Claim7.holds Tryd.pinned (.plain (OpenSpec.upto agentObeysSpec)) agentObeysUptoCard
end Rows
end Go.Proofs.YtkienmncifonnaaDoor
