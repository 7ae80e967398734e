/-
  DERIVED. GIVEN WITH THE SEED: THE CARDS: each row of YteiajbeoglmmmaaDoorRows.lean that lists a variable, with what it lists TIED to the program's text (the seventh form; the later family's looks); each row that meets fmt, with fmt's text TOLD by the authors' own Lean function (tested against real Go, not proved from fmt's source: count such statements apart). THE CARD IS WHAT COUNTS. Prove the row's statement (the work); the ties are given (YteiajbeoglmmmaaDoorTie.lean); close each card by the builder's one call (the guide's Derived/Test/ToyasCard.lean, 'card_holds'). Laid BY PROGRAM, IN A SANDBOX (cutbox-door.mjs). By AI agents, Wed Nov 11 2026. No macro, syntax, notation, axiom, sorry.
-/
import Derived.Test.YteiajbeoglmmmaaDoorRows
import GoSem.ClaimSeven
namespace Go.Proofs.YteiajbeoglmmmaaDoor
namespace Rows

/-- THE TIED CARD OF 'equerrylaw08.RecPuts'. -/
def recPutsCard : Claim7 := { stood := { row := recPutsRow, standIns := [], harness := (true, "b51149955bf679988e76922489e61b8658b0c73ad25113875b51ee102343f867"), looks := false }, kinds := [], alts := [], laidByText := true, laidKinds := [.data], laidTests := true, laidLooks := .later }
def RecPutsCardSaid : Prop := Claim7.holds Tryd.pinned (.plain (OpenSpec.ofChange recPutsSpec)) recPutsCard

/-- THE TIED CARD OF 'equerrylaw08.RecGets'. -/
def recGetsCard : Claim7 := { stood := { row := recGetsRow, standIns := [], harness := (true, "b51149955bf679988e76922489e61b8658b0c73ad25113875b51ee102343f867"), looks := false }, kinds := [], alts := [], laidByText := true, laidKinds := [.data], laidTests := true, laidLooks := .later }
def RecGetsCardSaid : Prop := Claim7.holds Tryd.pinned (.plain (OpenSpec.ofChange recGetsSpec)) recGetsCard

/-- THE TIED CARD OF 'equerrylaw08.RecRow'. -/
def recRowCard : Claim7 := { stood := { row := recRowRow, standIns := [], harness := (true, "b51149955bf679988e76922489e61b8658b0c73ad25113875b51ee102343f867"), looks := false }, kinds := [], alts := [], laidByText := true, laidKinds := [.data], laidTests := true, laidLooks := .later }
def RecRowCardSaid : Prop := Claim7.holds Tryd.pinned (.plain (OpenSpec.ofChange recRowSpec)) recRowCard

/-- THE TIED CARD OF 'equerrylaw08.RecSpoilt'. -/
def recSpoiltCard : Claim7 := { stood := { row := recSpoiltRow, standIns := [], harness := (true, "b51149955bf679988e76922489e61b8658b0c73ad25113875b51ee102343f867"), looks := false }, kinds := [], alts := [], laidByText := true, laidKinds := [.data], laidTests := true, laidLooks := .later }
def RecSpoiltCardSaid : Prop := Claim7.holds Tryd.pinned (.plain (OpenSpec.ofChange recSpoiltSpec)) recSpoiltCard

/-- THE SECOND FORM's CARD OF 'equerrylaw08.RecPuts'. -/
def recPutsUptoCard : Claim7 := { stood := { row := recPutsUptoRow, standIns := [], harness := (true, "b51149955bf679988e76922489e61b8658b0c73ad25113875b51ee102343f867"), looks := false }, kinds := [], alts := [], laidByText := true, laidKinds := [.data], laidTests := true, laidLooks := .later }
def RecPutsUptoCardSaid : Prop := Claim7.holds Tryd.pinned (.plain (OpenSpec.upto recPutsSpec)) recPutsUptoCard

/-- THE SECOND FORM's CARD OF 'equerrylaw08.RecGets'. -/
def recGetsUptoCard : Claim7 := { stood := { row := recGetsUptoRow, standIns := [], harness := (true, "b51149955bf679988e76922489e61b8658b0c73ad25113875b51ee102343f867"), looks := false }, kinds := [], alts := [], laidByText := true, laidKinds := [.data], laidTests := true, laidLooks := .later }
def RecGetsUptoCardSaid : Prop := Claim7.holds Tryd.pinned (.plain (OpenSpec.upto recGetsSpec)) recGetsUptoCard

/-- THE SECOND FORM's CARD OF 'equerrylaw08.RecRow'. -/
def recRowUptoCard : Claim7 := { stood := { row := recRowUptoRow, standIns := [], harness := (true, "b51149955bf679988e76922489e61b8658b0c73ad25113875b51ee102343f867"), looks := false }, kinds := [], alts := [], laidByText := true, laidKinds := [.data], laidTests := true, laidLooks := .later }
def RecRowUptoCardSaid : Prop := Claim7.holds Tryd.pinned (.plain (OpenSpec.upto recRowSpec)) recRowUptoCard

/-- THE SECOND FORM's CARD OF 'equerrylaw08.RecSpoilt'. -/
def recSpoiltUptoCard : Claim7 := { stood := { row := recSpoiltUptoRow, standIns := [], harness := (true, "b51149955bf679988e76922489e61b8658b0c73ad25113875b51ee102343f867"), looks := false }, kinds := [], alts := [], laidByText := true, laidKinds := [.data], laidTests := true, laidLooks := .later }
def RecSpoiltUptoCardSaid : Prop := Claim7.holds Tryd.pinned (.plain (OpenSpec.upto recSpoiltSpec)) recSpoiltUptoCard
end Rows
end Go.Proofs.YteiajbeoglmmmaaDoor
