/-
  DERIVED. GIVEN WITH THE SEED: THE CARDS: each row of YtafenkepigmcaaaGreatDoorRows.lean that lists a variable, with what it lists TIED to the program's text (the seventh form; the later family's looks); each row that meets fmt, with fmt's text TOLD by the authors' own Lean function (tested against real Go, not proved from fmt's source: count such statements apart). THE CARD IS WHAT COUNTS. Prove the row's statement (the work); the ties are given (YtafenkepigmcaaaGreatDoorTie.lean); close each card by the builder's one call (the guide's Derived/Test/ToyasCard.lean, 'card_holds'). Laid BY PROGRAM, IN A SANDBOX (cutbox-door.mjs). By AI agents, Wed Nov 11 2026. No macro, syntax, notation, axiom, sorry.
-/
import Derived.Test.YtafenkepigmcaaaGreatDoorRows
import GoSem.ClaimSeven
namespace Go.Proofs.YtafenkepigmcaaaGreatDoor
namespace Rows

/-- THE TIED CARD OF 'gussetlaw03.GraphPlays'. -/
def graphPlaysCard : Claim7 := { stood := { row := graphPlaysRow, standIns := [], harness := (true, "a49375f0f6ad989a9414c81098ca1aa1afdcd62f157e9ccc045efbb3c13fe164"), looks := true }, kinds := [], alts := [], laidByText := true, laidKinds := [.handle], laidTests := true, laidLooks := .later }
def GraphPlaysCardSaid : Prop := Claim7.holds Tryz.pinned (.plain (OpenSpec.ofChange graphPlaysSpec)) graphPlaysCard

/-- THE TIED CARD OF 'gussetlaw03.GraphPairs'. -/
def graphPairsCard : Claim7 := { stood := { row := graphPairsRow, standIns := [], harness := (true, "a49375f0f6ad989a9414c81098ca1aa1afdcd62f157e9ccc045efbb3c13fe164"), looks := true }, kinds := [], alts := [], laidByText := true, laidKinds := [.handle], laidTests := true, laidLooks := .later }
def GraphPairsCardSaid : Prop := Claim7.holds Tryz.pinned (.plain (OpenSpec.ofChange graphPairsSpec)) graphPairsCard

/-- THE TIED CARD OF 'gussetlaw03.GraphAll'. -/
def graphAllCard : Claim7 := { stood := { row := graphAllRow, standIns := [], harness := (true, "a49375f0f6ad989a9414c81098ca1aa1afdcd62f157e9ccc045efbb3c13fe164"), looks := true }, kinds := [], alts := [], laidByText := true, laidKinds := [.handle], laidTests := true, laidLooks := .later }
def GraphAllCardSaid : Prop := Claim7.holds Tryz.pinned (.plain (OpenSpec.ofChange graphAllSpec)) graphAllCard

/-- THE TIED CARD OF 'gussetlaw03.GraphHops'. -/
def graphHopsCard : Claim7 := { stood := { row := graphHopsRow, standIns := [], harness := (true, "a49375f0f6ad989a9414c81098ca1aa1afdcd62f157e9ccc045efbb3c13fe164"), looks := true }, kinds := [], alts := [], laidByText := true, laidKinds := [.handle], laidTests := true, laidLooks := .later }
def GraphHopsCardSaid : Prop := Claim7.holds Tryz.pinned (.plain (OpenSpec.ofChange graphHopsSpec)) graphHopsCard

/-- THE TIED CARD OF 'gussetlaw03.GraphNil'. -/
def graphNilCard : Claim7 := { stood := { row := graphNilRow, standIns := [], harness := (true, "a49375f0f6ad989a9414c81098ca1aa1afdcd62f157e9ccc045efbb3c13fe164"), looks := true }, kinds := [], alts := [], laidByText := true, laidKinds := [.handle], laidTests := true, laidLooks := .later }
def GraphNilCardSaid : Prop := Claim7.holds Tryz.pinned (.plain (OpenSpec.ofChange graphNilSpec)) graphNilCard

/-- THE TIED CARD OF 'gussetlaw03.GraphParts'. -/
def graphPartsCard : Claim7 := { stood := { row := graphPartsRow, standIns := [], harness := (true, "a49375f0f6ad989a9414c81098ca1aa1afdcd62f157e9ccc045efbb3c13fe164"), looks := true }, kinds := [], alts := [], laidByText := true, laidKinds := [.handle], laidTests := true, laidLooks := .later }
def GraphPartsCardSaid : Prop := Claim7.holds Tryz.pinned (.plain (OpenSpec.ofChange graphPartsSpec)) graphPartsCard

/-- THE TIED CARD OF 'gussetlaw03.GraphBack'. -/
def graphBackCard : Claim7 := { stood := { row := graphBackRow, standIns := [], harness := (true, "a49375f0f6ad989a9414c81098ca1aa1afdcd62f157e9ccc045efbb3c13fe164"), looks := true }, kinds := [], alts := [], laidByText := true, laidKinds := [.handle], laidTests := true, laidLooks := .later }
def GraphBackCardSaid : Prop := Claim7.holds Tryz.pinned (.plain (OpenSpec.ofChange graphBackSpec)) graphBackCard

/-- THE TIED CARD OF 'gussetlaw03.GraphDegrees'. -/
def graphDegreesCard : Claim7 := { stood := { row := graphDegreesRow, standIns := [], harness := (true, "a49375f0f6ad989a9414c81098ca1aa1afdcd62f157e9ccc045efbb3c13fe164"), looks := true }, kinds := [], alts := [], laidByText := true, laidKinds := [.handle], laidTests := true, laidLooks := .later }
def GraphDegreesCardSaid : Prop := Claim7.holds Tryz.pinned (.plain (OpenSpec.ofChange graphDegreesSpec)) graphDegreesCard

/-- THE TIED CARD OF 'gussetlaw18.PlanWants'. -/
def planWantsCard : Claim7 := { stood := { row := planWantsRow, standIns := [], harness := (true, "a49375f0f6ad989a9414c81098ca1aa1afdcd62f157e9ccc045efbb3c13fe164"), looks := true }, kinds := [], alts := [], laidByText := true, laidKinds := [.handle], laidTests := true, laidLooks := .later }
def PlanWantsCardSaid : Prop := Claim7.holds Tryz.pinned (.plain (OpenSpec.ofChange planWantsSpec)) planWantsCard

/-- THE TIED CARD OF 'gussetlaw18.PlanRuns'. -/
def planRunsCard : Claim7 := { stood := { row := planRunsRow, standIns := [], harness := (true, "a49375f0f6ad989a9414c81098ca1aa1afdcd62f157e9ccc045efbb3c13fe164"), looks := true }, kinds := [], alts := [], laidByText := true, laidKinds := [.handle], laidTests := true, laidLooks := .later }
def PlanRunsCardSaid : Prop := Claim7.holds Tryz.pinned (.plain (OpenSpec.ofChange planRunsSpec)) planRunsCard

/-- THE TIED CARD OF 'gussetlaw18.PlanEnough'. -/
def planEnoughCard : Claim7 := { stood := { row := planEnoughRow, standIns := [], harness := (true, "a49375f0f6ad989a9414c81098ca1aa1afdcd62f157e9ccc045efbb3c13fe164"), looks := true }, kinds := [], alts := [], laidByText := true, laidKinds := [.handle], laidTests := true, laidLooks := .later }
def PlanEnoughCardSaid : Prop := Claim7.holds Tryz.pinned (.plain (OpenSpec.ofChange planEnoughSpec)) planEnoughCard

/-- THE TIED CARD OF 'gussetlaw18.PlanNothing'. -/
def planNothingCard : Claim7 := { stood := { row := planNothingRow, standIns := [], harness := (true, "a49375f0f6ad989a9414c81098ca1aa1afdcd62f157e9ccc045efbb3c13fe164"), looks := true }, kinds := [], alts := [], laidByText := true, laidKinds := [.handle], laidTests := true, laidLooks := .later }
def PlanNothingCardSaid : Prop := Claim7.holds Tryz.pinned (.plain (OpenSpec.ofChange planNothingSpec)) planNothingCard

/-- THE SECOND FORM's CARD OF 'gussetlaw03.GraphPlays'. -/
def graphPlaysUptoCard : Claim7 := { stood := { row := graphPlaysUptoRow, standIns := [], harness := (true, "a49375f0f6ad989a9414c81098ca1aa1afdcd62f157e9ccc045efbb3c13fe164"), looks := true }, kinds := [], alts := [], laidByText := true, laidKinds := [.handle], laidTests := true, laidLooks := .later }
def GraphPlaysUptoCardSaid : Prop := Claim7.holds Tryz.pinned (.plain (OpenSpec.upto graphPlaysSpec)) graphPlaysUptoCard

/-- THE SECOND FORM's CARD OF 'gussetlaw03.GraphPairs'. -/
def graphPairsUptoCard : Claim7 := { stood := { row := graphPairsUptoRow, standIns := [], harness := (true, "a49375f0f6ad989a9414c81098ca1aa1afdcd62f157e9ccc045efbb3c13fe164"), looks := true }, kinds := [], alts := [], laidByText := true, laidKinds := [.handle], laidTests := true, laidLooks := .later }
def GraphPairsUptoCardSaid : Prop := Claim7.holds Tryz.pinned (.plain (OpenSpec.upto graphPairsSpec)) graphPairsUptoCard

/-- THE SECOND FORM's CARD OF 'gussetlaw03.GraphAll'. -/
def graphAllUptoCard : Claim7 := { stood := { row := graphAllUptoRow, standIns := [], harness := (true, "a49375f0f6ad989a9414c81098ca1aa1afdcd62f157e9ccc045efbb3c13fe164"), looks := true }, kinds := [], alts := [], laidByText := true, laidKinds := [.handle], laidTests := true, laidLooks := .later }
def GraphAllUptoCardSaid : Prop := Claim7.holds Tryz.pinned (.plain (OpenSpec.upto graphAllSpec)) graphAllUptoCard

/-- THE SECOND FORM's CARD OF 'gussetlaw03.GraphHops'. -/
def graphHopsUptoCard : Claim7 := { stood := { row := graphHopsUptoRow, standIns := [], harness := (true, "a49375f0f6ad989a9414c81098ca1aa1afdcd62f157e9ccc045efbb3c13fe164"), looks := true }, kinds := [], alts := [], laidByText := true, laidKinds := [.handle], laidTests := true, laidLooks := .later }
def GraphHopsUptoCardSaid : Prop := Claim7.holds Tryz.pinned (.plain (OpenSpec.upto graphHopsSpec)) graphHopsUptoCard

/-- THE SECOND FORM's CARD OF 'gussetlaw03.GraphNil'. -/
def graphNilUptoCard : Claim7 := { stood := { row := graphNilUptoRow, standIns := [], harness := (true, "a49375f0f6ad989a9414c81098ca1aa1afdcd62f157e9ccc045efbb3c13fe164"), looks := true }, kinds := [], alts := [], laidByText := true, laidKinds := [.handle], laidTests := true, laidLooks := .later }
def GraphNilUptoCardSaid : Prop := Claim7.holds Tryz.pinned (.plain (OpenSpec.upto graphNilSpec)) graphNilUptoCard

/-- THE SECOND FORM's CARD OF 'gussetlaw03.GraphParts'. -/
def graphPartsUptoCard : Claim7 := { stood := { row := graphPartsUptoRow, standIns := [], harness := (true, "a49375f0f6ad989a9414c81098ca1aa1afdcd62f157e9ccc045efbb3c13fe164"), looks := true }, kinds := [], alts := [], laidByText := true, laidKinds := [.handle], laidTests := true, laidLooks := .later }
def GraphPartsUptoCardSaid : Prop := Claim7.holds Tryz.pinned (.plain (OpenSpec.upto graphPartsSpec)) graphPartsUptoCard

/-- THE SECOND FORM's CARD OF 'gussetlaw03.GraphBack'. -/
def graphBackUptoCard : Claim7 := { stood := { row := graphBackUptoRow, standIns := [], harness := (true, "a49375f0f6ad989a9414c81098ca1aa1afdcd62f157e9ccc045efbb3c13fe164"), looks := true }, kinds := [], alts := [], laidByText := true, laidKinds := [.handle], laidTests := true, laidLooks := .later }
def GraphBackUptoCardSaid : Prop := Claim7.holds Tryz.pinned (.plain (OpenSpec.upto graphBackSpec)) graphBackUptoCard

/-- THE SECOND FORM's CARD OF 'gussetlaw03.GraphDegrees'. -/
def graphDegreesUptoCard : Claim7 := { stood := { row := graphDegreesUptoRow, standIns := [], harness := (true, "a49375f0f6ad989a9414c81098ca1aa1afdcd62f157e9ccc045efbb3c13fe164"), looks := true }, kinds := [], alts := [], laidByText := true, laidKinds := [.handle], laidTests := true, laidLooks := .later }
def GraphDegreesUptoCardSaid : Prop := Claim7.holds Tryz.pinned (.plain (OpenSpec.upto graphDegreesSpec)) graphDegreesUptoCard

/-- THE SECOND FORM's CARD OF 'gussetlaw18.PlanWants'. -/
def planWantsUptoCard : Claim7 := { stood := { row := planWantsUptoRow, standIns := [], harness := (true, "a49375f0f6ad989a9414c81098ca1aa1afdcd62f157e9ccc045efbb3c13fe164"), looks := true }, kinds := [], alts := [], laidByText := true, laidKinds := [.handle], laidTests := true, laidLooks := .later }
def PlanWantsUptoCardSaid : Prop := Claim7.holds Tryz.pinned (.plain (OpenSpec.upto planWantsSpec)) planWantsUptoCard

/-- THE SECOND FORM's CARD OF 'gussetlaw18.PlanRuns'. -/
def planRunsUptoCard : Claim7 := { stood := { row := planRunsUptoRow, standIns := [], harness := (true, "a49375f0f6ad989a9414c81098ca1aa1afdcd62f157e9ccc045efbb3c13fe164"), looks := true }, kinds := [], alts := [], laidByText := true, laidKinds := [.handle], laidTests := true, laidLooks := .later }
def PlanRunsUptoCardSaid : Prop := Claim7.holds Tryz.pinned (.plain (OpenSpec.upto planRunsSpec)) planRunsUptoCard

/-- THE SECOND FORM's CARD OF 'gussetlaw18.PlanEnough'. -/
def planEnoughUptoCard : Claim7 := { stood := { row := planEnoughUptoRow, standIns := [], harness := (true, "a49375f0f6ad989a9414c81098ca1aa1afdcd62f157e9ccc045efbb3c13fe164"), looks := true }, kinds := [], alts := [], laidByText := true, laidKinds := [.handle], laidTests := true, laidLooks := .later }
def PlanEnoughUptoCardSaid : Prop := Claim7.holds Tryz.pinned (.plain (OpenSpec.upto planEnoughSpec)) planEnoughUptoCard

/-- THE SECOND FORM's CARD OF 'gussetlaw18.PlanNothing'. -/
def planNothingUptoCard : Claim7 := { stood := { row := planNothingUptoRow, standIns := [], harness := (true, "a49375f0f6ad989a9414c81098ca1aa1afdcd62f157e9ccc045efbb3c13fe164"), looks := true }, kinds := [], alts := [], laidByText := true, laidKinds := [.handle], laidTests := true, laidLooks := .later }
def PlanNothingUptoCardSaid : Prop := Claim7.holds Tryz.pinned (.plain (OpenSpec.upto planNothingSpec)) planNothingUptoCard
end Rows
end Go.Proofs.YtafenkepigmcaaaGreatDoor
