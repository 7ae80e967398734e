/-
  DERIVED. GIVEN WITH THE SEED: THE CARDS: each row of YtiddpoihhfphmaaDoorRows.lean that lists a variable, with what it lists TIED to the program's text (the seventh form; the later family's looks); each row that meets fmt, with fmt's text TOLD by the authors' own Lean function (tested against real Go, not proved from fmt's source: count such statements apart). THE CARD IS WHAT COUNTS. Prove the row's statement (the work); the ties are given (YtiddpoihhfphmaaDoorTie.lean); close each card by the builder's one call (the guide's Derived/Test/ToyasCard.lean, 'card_holds'). Laid BY PROGRAM, IN A SANDBOX (cutbox-door.mjs). By AI agents, Wed Nov 11 2026. No macro, syntax, notation, axiom, sorry.
-/
import Derived.Test.YtiddpoihhfphmaaDoorRows
import GoSem.ClaimSeven
namespace Go.Proofs.YtiddpoihhfphmaaDoor
namespace Rows

/-- THE TIED CARD OF 'equerrylaw10.PredHolds'. -/
def predHoldsCard : Claim7 := { stood := { row := predHoldsRow, standIns := [], harness := (true, "9061d7757643d3015b7114eb6bebb44a859a47aed534dc0258953c3861e65863"), looks := false }, kinds := [], alts := [], laidByText := true, laidKinds := [.data], laidTests := true, laidLooks := .later }
def PredHoldsCardSaid : Prop := Claim7.holds Tryd.pinned (.plain (OpenSpec.ofChange predHoldsSpec)) predHoldsCard

/-- THE TIED CARD OF 'equerrylaw10.PredPuts'. -/
def predPutsCard : Claim7 := { stood := { row := predPutsRow, standIns := [], harness := (true, "9061d7757643d3015b7114eb6bebb44a859a47aed534dc0258953c3861e65863"), looks := false }, kinds := [], alts := [], laidByText := true, laidKinds := [.data], laidTests := true, laidLooks := .later }
def PredPutsCardSaid : Prop := Claim7.holds Tryd.pinned (.plain (OpenSpec.ofChange predPutsSpec)) predPutsCard

/-- THE TIED CARD OF 'equerrylaw10.PredSame'. -/
def predSameCard : Claim7 := { stood := { row := predSameRow, standIns := [], harness := (true, "9061d7757643d3015b7114eb6bebb44a859a47aed534dc0258953c3861e65863"), looks := false }, kinds := [], alts := [], laidByText := true, laidKinds := [.data], laidTests := true, laidLooks := .later }
def PredSameCardSaid : Prop := Claim7.holds Tryd.pinned (.plain (OpenSpec.ofChange predSameSpec)) predSameCard

/-- THE TIED CARD OF 'equerrylaw10.PredThree'. -/
def predThreeCard : Claim7 := { stood := { row := predThreeRow, standIns := [], harness := (true, "9061d7757643d3015b7114eb6bebb44a859a47aed534dc0258953c3861e65863"), looks := false }, kinds := [], alts := [], laidByText := true, laidKinds := [.data], laidTests := true, laidLooks := .later }
def PredThreeCardSaid : Prop := Claim7.holds Tryd.pinned (.plain (OpenSpec.ofChange predThreeSpec)) predThreeCard

/-- THE SECOND FORM's CARD OF 'equerrylaw10.PredHolds'. -/
def predHoldsUptoCard : Claim7 := { stood := { row := predHoldsUptoRow, standIns := [], harness := (true, "9061d7757643d3015b7114eb6bebb44a859a47aed534dc0258953c3861e65863"), looks := false }, kinds := [], alts := [], laidByText := true, laidKinds := [.data], laidTests := true, laidLooks := .later }
def PredHoldsUptoCardSaid : Prop := Claim7.holds Tryd.pinned (.plain (OpenSpec.upto predHoldsSpec)) predHoldsUptoCard

/-- THE SECOND FORM's CARD OF 'equerrylaw10.PredPuts'. -/
def predPutsUptoCard : Claim7 := { stood := { row := predPutsUptoRow, standIns := [], harness := (true, "9061d7757643d3015b7114eb6bebb44a859a47aed534dc0258953c3861e65863"), looks := false }, kinds := [], alts := [], laidByText := true, laidKinds := [.data], laidTests := true, laidLooks := .later }
def PredPutsUptoCardSaid : Prop := Claim7.holds Tryd.pinned (.plain (OpenSpec.upto predPutsSpec)) predPutsUptoCard

/-- THE SECOND FORM's CARD OF 'equerrylaw10.PredSame'. -/
def predSameUptoCard : Claim7 := { stood := { row := predSameUptoRow, standIns := [], harness := (true, "9061d7757643d3015b7114eb6bebb44a859a47aed534dc0258953c3861e65863"), looks := false }, kinds := [], alts := [], laidByText := true, laidKinds := [.data], laidTests := true, laidLooks := .later }
def PredSameUptoCardSaid : Prop := Claim7.holds Tryd.pinned (.plain (OpenSpec.upto predSameSpec)) predSameUptoCard

/-- THE SECOND FORM's CARD OF 'equerrylaw10.PredThree'. -/
def predThreeUptoCard : Claim7 := { stood := { row := predThreeUptoRow, standIns := [], harness := (true, "9061d7757643d3015b7114eb6bebb44a859a47aed534dc0258953c3861e65863"), looks := false }, kinds := [], alts := [], laidByText := true, laidKinds := [.data], laidTests := true, laidLooks := .later }
def PredThreeUptoCardSaid : Prop := Claim7.holds Tryd.pinned (.plain (OpenSpec.upto predThreeSpec)) predThreeUptoCard
end Rows
end Go.Proofs.YtiddpoihhfphmaaDoor
