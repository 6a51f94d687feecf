/-
  DERIVED. GIVEN WITH THE SEED: THE CARDS: each row of YtkhnjgadagkpjaaDoorRows.lean that lists a variable, with what it lists TIED to the program's text (the seventh form; the later family's looks); each row that meets fmt, with fmt's text TOLD by the authors' own Lean function (tested against real Go, not proved from fmt's source: count such statements apart). THE CARD IS WHAT COUNTS. Prove the row's statement (the work); the ties are given (YtkhnjgadagkpjaaDoorTie.lean); close each card by the builder's one call (the guide's Derived/Test/ToyasCard.lean, 'card_holds'). Laid BY PROGRAM, IN A SANDBOX (cutbox-door.mjs). By AI agents, Wed Nov 11 2026. No macro, syntax, notation, axiom, sorry.
-/
import Derived.Test.YtkhnjgadagkpjaaDoorRows
import GoSem.ClaimSeven
namespace Go.Proofs.YtkhnjgadagkpjaaDoor
namespace Rows

/-- THE TIED CARD OF 'gussetlaw01.FaultChains'. -/
def faultChainsCard : Claim7 := { stood := { row := faultChainsRow, standIns := [], harness := (true, "6dbf4326df1ace041082b3db791fc85e4f97a2617aae4c11435f2502c2ad4495"), looks := true }, kinds := [], alts := [], laidByText := true, laidKinds := [.data, .data, .data, .handle], laidTests := true, laidLooks := .later }
def FaultChainsCardSaid : Prop := Claim7.holds Tryd.pinned (.plain (OpenSpec.ofChange faultChainsSpec)) faultChainsCard

/-- THE TIED CARD OF 'gussetlaw01.FaultWraps'. -/
def faultWrapsCard : Claim7 := { stood := { row := faultWrapsRow, standIns := [], harness := (true, "6dbf4326df1ace041082b3db791fc85e4f97a2617aae4c11435f2502c2ad4495"), looks := true }, kinds := [], alts := [], laidByText := true, laidKinds := [.data, .data, .data, .handle], laidTests := true, laidLooks := .later }
def FaultWrapsCardSaid : Prop := Claim7.holds Tryd.pinned (.plain (OpenSpec.ofChange faultWrapsSpec)) faultWrapsCard

/-- THE TIED CARD OF 'gussetlaw01.FaultLast'. -/
def faultLastCard : Claim7 := { stood := { row := faultLastRow, standIns := [], harness := (true, "6dbf4326df1ace041082b3db791fc85e4f97a2617aae4c11435f2502c2ad4495"), looks := true }, kinds := [], alts := [], laidByText := true, laidKinds := [.data, .data, .data, .handle], laidTests := true, laidLooks := .later }
def FaultLastCardSaid : Prop := Claim7.holds Tryd.pinned (.plain (OpenSpec.ofChange faultLastSpec)) faultLastCard

/-- THE SECOND FORM's CARD OF 'gussetlaw01.FaultChains'. -/
def faultChainsUptoCard : Claim7 := { stood := { row := faultChainsUptoRow, standIns := [], harness := (true, "6dbf4326df1ace041082b3db791fc85e4f97a2617aae4c11435f2502c2ad4495"), looks := true }, kinds := [], alts := [], laidByText := true, laidKinds := [.data, .data, .data, .handle], laidTests := true, laidLooks := .later }
def FaultChainsUptoCardSaid : Prop := Claim7.holds Tryd.pinned (.plain (OpenSpec.upto faultChainsSpec)) faultChainsUptoCard

/-- THE SECOND FORM's CARD OF 'gussetlaw01.FaultWraps'. -/
def faultWrapsUptoCard : Claim7 := { stood := { row := faultWrapsUptoRow, standIns := [], harness := (true, "6dbf4326df1ace041082b3db791fc85e4f97a2617aae4c11435f2502c2ad4495"), looks := true }, kinds := [], alts := [], laidByText := true, laidKinds := [.data, .data, .data, .handle], laidTests := true, laidLooks := .later }
def FaultWrapsUptoCardSaid : Prop := Claim7.holds Tryd.pinned (.plain (OpenSpec.upto faultWrapsSpec)) faultWrapsUptoCard

/-- THE SECOND FORM's CARD OF 'gussetlaw01.FaultLast'. -/
def faultLastUptoCard : Claim7 := { stood := { row := faultLastUptoRow, standIns := [], harness := (true, "6dbf4326df1ace041082b3db791fc85e4f97a2617aae4c11435f2502c2ad4495"), looks := true }, kinds := [], alts := [], laidByText := true, laidKinds := [.data, .data, .data, .handle], laidTests := true, laidLooks := .later }
def FaultLastUptoCardSaid : Prop := Claim7.holds Tryd.pinned (.plain (OpenSpec.upto faultLastSpec)) faultLastUptoCard
end Rows
end Go.Proofs.YtkhnjgadagkpjaaDoor
