/-
  DERIVED. GIVEN WITH THE SEED: THE CARDS: each row of YtccjflioaajgiaaGreatDoorRows.lean that lists a variable, with what it lists TIED to the program's text (the seventh form; the later family's looks); each row that meets fmt, with fmt's text TOLD by the authors' own Lean function (tested against real Go, not proved from fmt's source: count such statements apart). THE CARD IS WHAT COUNTS. Prove the row's statement (the work); the ties are given (YtccjflioaajgiaaGreatDoorTie.lean); close each card by the builder's one call (the guide's Derived/Test/ToyasCard.lean, 'card_holds'). Laid BY PROGRAM, IN A SANDBOX (cutbox-door.mjs). By AI agents, Wed Nov 11 2026. No macro, syntax, notation, axiom, sorry.
-/
import Derived.Test.YtccjflioaajgiaaGreatDoorRows
import GoSem.ClaimSeven
namespace Go.Proofs.YtccjflioaajgiaaGreatDoor
namespace Rows

/-- THE TIED CARD OF 'equerrylaw12.DenMatches'. -/
def denMatchesCard : Claim7 := { stood := { row := denMatchesRow, standIns := [], harness := (true, "baafeed919327f35d133dd2dc8267e0a4dba24e21a21b36cc62426a92fdb3895"), looks := false }, kinds := [], alts := [], laidByText := true, laidKinds := [.data], laidTests := true, laidLooks := .later }
def DenMatchesCardSaid : Prop := Claim7.holds Tryz.pinned (.plain (OpenSpec.ofChange denMatchesSpec)) denMatchesCard

/-- THE TIED CARD OF 'equerrylaw12.DenHappens'. -/
def denHappensCard : Claim7 := { stood := { row := denHappensRow, standIns := [], harness := (true, "baafeed919327f35d133dd2dc8267e0a4dba24e21a21b36cc62426a92fdb3895"), looks := false }, kinds := [], alts := [], laidByText := true, laidKinds := [.data], laidTests := true, laidLooks := .later }
def DenHappensCardSaid : Prop := Claim7.holds Tryz.pinned (.plain (OpenSpec.ofChange denHappensSpec)) denHappensCard

/-- THE TIED CARD OF 'equerrylaw12.DenAlt'. -/
def denAltCard : Claim7 := { stood := { row := denAltRow, standIns := [], harness := (true, "baafeed919327f35d133dd2dc8267e0a4dba24e21a21b36cc62426a92fdb3895"), looks := false }, kinds := [], alts := [], laidByText := true, laidKinds := [.data], laidTests := true, laidLooks := .later }
def DenAltCardSaid : Prop := Claim7.holds Tryz.pinned (.plain (OpenSpec.ofChange denAltSpec)) denAltCard

/-- THE TIED CARD OF 'equerrylaw12.DenRep'. -/
def denRepCard : Claim7 := { stood := { row := denRepRow, standIns := [], harness := (true, "baafeed919327f35d133dd2dc8267e0a4dba24e21a21b36cc62426a92fdb3895"), looks := false }, kinds := [], alts := [], laidByText := true, laidKinds := [.data], laidTests := true, laidLooks := .later }
def DenRepCardSaid : Prop := Claim7.holds Tryz.pinned (.plain (OpenSpec.ofChange denRepSpec)) denRepCard

/-- THE TIED CARD OF 'equerrylaw12.DenLess'. -/
def denLessCard : Claim7 := { stood := { row := denLessRow, standIns := [], harness := (true, "baafeed919327f35d133dd2dc8267e0a4dba24e21a21b36cc62426a92fdb3895"), looks := false }, kinds := [], alts := [], laidByText := true, laidKinds := [.data], laidTests := true, laidLooks := .later }
def DenLessCardSaid : Prop := Claim7.holds Tryz.pinned (.plain (OpenSpec.ofChange denLessSpec)) denLessCard

/-- THE SECOND FORM's CARD OF 'equerrylaw12.DenMatches'. -/
def denMatchesUptoCard : Claim7 := { stood := { row := denMatchesUptoRow, standIns := [], harness := (true, "baafeed919327f35d133dd2dc8267e0a4dba24e21a21b36cc62426a92fdb3895"), looks := false }, kinds := [], alts := [], laidByText := true, laidKinds := [.data], laidTests := true, laidLooks := .later }
def DenMatchesUptoCardSaid : Prop := Claim7.holds Tryz.pinned (.plain (OpenSpec.upto denMatchesSpec)) denMatchesUptoCard

/-- THE SECOND FORM's CARD OF 'equerrylaw12.DenHappens'. -/
def denHappensUptoCard : Claim7 := { stood := { row := denHappensUptoRow, standIns := [], harness := (true, "baafeed919327f35d133dd2dc8267e0a4dba24e21a21b36cc62426a92fdb3895"), looks := false }, kinds := [], alts := [], laidByText := true, laidKinds := [.data], laidTests := true, laidLooks := .later }
def DenHappensUptoCardSaid : Prop := Claim7.holds Tryz.pinned (.plain (OpenSpec.upto denHappensSpec)) denHappensUptoCard

/-- THE SECOND FORM's CARD OF 'equerrylaw12.DenAlt'. -/
def denAltUptoCard : Claim7 := { stood := { row := denAltUptoRow, standIns := [], harness := (true, "baafeed919327f35d133dd2dc8267e0a4dba24e21a21b36cc62426a92fdb3895"), looks := false }, kinds := [], alts := [], laidByText := true, laidKinds := [.data], laidTests := true, laidLooks := .later }
def DenAltUptoCardSaid : Prop := Claim7.holds Tryz.pinned (.plain (OpenSpec.upto denAltSpec)) denAltUptoCard

/-- THE SECOND FORM's CARD OF 'equerrylaw12.DenRep'. -/
def denRepUptoCard : Claim7 := { stood := { row := denRepUptoRow, standIns := [], harness := (true, "baafeed919327f35d133dd2dc8267e0a4dba24e21a21b36cc62426a92fdb3895"), looks := false }, kinds := [], alts := [], laidByText := true, laidKinds := [.data], laidTests := true, laidLooks := .later }
def DenRepUptoCardSaid : Prop := Claim7.holds Tryz.pinned (.plain (OpenSpec.upto denRepSpec)) denRepUptoCard

/-- THE SECOND FORM's CARD OF 'equerrylaw12.DenLess'. -/
def denLessUptoCard : Claim7 := { stood := { row := denLessUptoRow, standIns := [], harness := (true, "baafeed919327f35d133dd2dc8267e0a4dba24e21a21b36cc62426a92fdb3895"), looks := false }, kinds := [], alts := [], laidByText := true, laidKinds := [.data], laidTests := true, laidLooks := .later }
def DenLessUptoCardSaid : Prop := Claim7.holds Tryz.pinned (.plain (OpenSpec.upto denLessSpec)) denLessUptoCard
end Rows
end Go.Proofs.YtccjflioaajgiaaGreatDoor
