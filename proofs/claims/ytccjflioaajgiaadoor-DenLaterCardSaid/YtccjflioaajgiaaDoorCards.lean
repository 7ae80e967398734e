/-
  DERIVED. GIVEN WITH THE SEED: THE CARDS: each row of YtccjflioaajgiaaDoorRows.lean that lists a variable, with what it lists TIED to the program's text (the seventh form; the later family's looks); each row that meets fmt, with fmt's text TOLD by the authors' own Lean function (tested against real Go, not proved from fmt's source: count such statements apart). THE CARD IS WHAT COUNTS. Prove the row's statement (the work); the ties are given (YtccjflioaajgiaaDoorTie.lean); close each card by the builder's one call (the guide's Derived/Test/ToyasCard.lean, 'card_holds'). Laid BY PROGRAM, IN A SANDBOX (cutbox-door.mjs). By AI agents, Wed Nov 11 2026. No macro, syntax, notation, axiom, sorry.
-/
import Derived.Test.YtccjflioaajgiaaDoorRows
import GoSem.ClaimSeven
namespace Go.Proofs.YtccjflioaajgiaaDoor
namespace Rows

/-- THE TIED CARD OF 'equerrylaw12.DenLater'. -/
def denLaterCard : Claim7 := { stood := { row := denLaterRow, standIns := [], harness := (true, "ee9d3806dd82e0836afadf247b0f8c1232a91623bb329cd44cb6a91210d2807d"), looks := false }, kinds := [], alts := [], laidByText := true, laidKinds := [.data], laidTests := true, laidLooks := .later }
def DenLaterCardSaid : Prop := Claim7.holds Tryd.pinned (.plain (OpenSpec.ofChange denLaterSpec)) denLaterCard

/-- THE SECOND FORM's CARD OF 'equerrylaw12.DenLater'. -/
def denLaterUptoCard : Claim7 := { stood := { row := denLaterUptoRow, standIns := [], harness := (true, "ee9d3806dd82e0836afadf247b0f8c1232a91623bb329cd44cb6a91210d2807d"), looks := false }, kinds := [], alts := [], laidByText := true, laidKinds := [.data], laidTests := true, laidLooks := .later }
def DenLaterUptoCardSaid : Prop := Claim7.holds Tryd.pinned (.plain (OpenSpec.upto denLaterSpec)) denLaterUptoCard
end Rows
end Go.Proofs.YtccjflioaajgiaaDoor
