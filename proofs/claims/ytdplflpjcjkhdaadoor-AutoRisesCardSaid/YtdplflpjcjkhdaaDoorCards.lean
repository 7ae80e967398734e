/-
  DERIVED. GIVEN WITH THE SEED: THE CARDS: each row of YtdplflpjcjkhdaaDoorRows.lean that lists a variable, with what it lists TIED to the program's text (the seventh form; the later family's looks); each row that meets fmt, with fmt's text TOLD by the authors' own Lean function (tested against real Go, not proved from fmt's source: count such statements apart). THE CARD IS WHAT COUNTS. Prove the row's statement (the work); the ties are given (YtdplflpjcjkhdaaDoorTie.lean); close each card by the builder's one call (the guide's Derived/Test/ToyasCard.lean, 'card_holds'). Laid BY PROGRAM, IN A SANDBOX (cutbox-door.mjs). By AI agents, Wed Nov 11 2026. No macro, syntax, notation, axiom, sorry.
-/
import Derived.Test.YtdplflpjcjkhdaaDoorRows
import GoSem.ClaimSeven
namespace Go.Proofs.YtdplflpjcjkhdaaDoor
namespace Rows

/-- THE TIED CARD OF 'equerrylaw14.AutoRises'. -/
def autoRisesCard : Claim7 := { stood := { row := autoRisesRow, standIns := [], harness := (true, "33a695bcd5c650f08b7ccd5c50262197038642474ef66066afba84d5b078454a"), looks := false }, kinds := [], alts := [], laidByText := true, laidKinds := [.data, .data], laidTests := true, laidLooks := .later }
def AutoRisesCardSaid : Prop := Claim7.holds Tryd.pinned (.plain (OpenSpec.ofChange autoRisesSpec)) autoRisesCard

/-- THE SECOND FORM's CARD OF 'equerrylaw14.AutoRises'. -/
def autoRisesUptoCard : Claim7 := { stood := { row := autoRisesUptoRow, standIns := [], harness := (true, "33a695bcd5c650f08b7ccd5c50262197038642474ef66066afba84d5b078454a"), looks := false }, kinds := [], alts := [], laidByText := true, laidKinds := [.data, .data], laidTests := true, laidLooks := .later }
def AutoRisesUptoCardSaid : Prop := Claim7.holds Tryd.pinned (.plain (OpenSpec.upto autoRisesSpec)) autoRisesUptoCard
end Rows
end Go.Proofs.YtdplflpjcjkhdaaDoor
