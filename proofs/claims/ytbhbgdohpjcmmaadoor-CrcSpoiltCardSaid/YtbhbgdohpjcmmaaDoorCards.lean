/-
  DERIVED. GIVEN WITH THE SEED: THE CARDS: each row of YtbhbgdohpjcmmaaDoorRows.lean that lists a variable, with what it lists TIED to the program's text (the seventh form; the later family's looks); each row that meets fmt, with fmt's text TOLD by the authors' own Lean function (tested against real Go, not proved from fmt's source: count such statements apart). THE CARD IS WHAT COUNTS. Prove the row's statement (the work); the ties are given (YtbhbgdohpjcmmaaDoorTie.lean); close each card by the builder's one call (the guide's Derived/Test/ToyasCard.lean, 'card_holds'). Laid BY PROGRAM, IN A SANDBOX (cutbox-door.mjs). By AI agents, Wed Nov 11 2026. No macro, syntax, notation, axiom, sorry.
-/
import Derived.Test.YtbhbgdohpjcmmaaDoorRows
import GoSem.ClaimSeven
namespace Go.Proofs.YtbhbgdohpjcmmaaDoor
namespace Rows

/-- THE TIED CARD OF 'equerrylaw01.CrcSums'. -/
def crcSumsCard : Claim7 := { stood := { row := crcSumsRow, standIns := [], harness := (true, "14e1f570eff48c0b5f244ea1b3f9b61426ecee9653150ebee7a832562e067eca"), looks := false }, kinds := [], alts := [], laidByText := true, laidKinds := [.data], laidTests := true, laidLooks := .later }
def CrcSumsCardSaid : Prop := Claim7.holds Tryd.pinned (.plain (OpenSpec.ofChange crcSumsSpec)) crcSumsCard

/-- THE TIED CARD OF 'equerrylaw01.CrcParts'. -/
def crcPartsCard : Claim7 := { stood := { row := crcPartsRow, standIns := [], harness := (true, "14e1f570eff48c0b5f244ea1b3f9b61426ecee9653150ebee7a832562e067eca"), looks := false }, kinds := [], alts := [], laidByText := true, laidKinds := [.data], laidTests := true, laidLooks := .later }
def CrcPartsCardSaid : Prop := Claim7.holds Tryd.pinned (.plain (OpenSpec.ofChange crcPartsSpec)) crcPartsCard

/-- THE TIED CARD OF 'equerrylaw01.CrcSpoilt'. -/
def crcSpoiltCard : Claim7 := { stood := { row := crcSpoiltRow, standIns := [], harness := (true, "14e1f570eff48c0b5f244ea1b3f9b61426ecee9653150ebee7a832562e067eca"), looks := false }, kinds := [], alts := [], laidByText := true, laidKinds := [.data], laidTests := true, laidLooks := .later }
def CrcSpoiltCardSaid : Prop := Claim7.holds Tryd.pinned (.plain (OpenSpec.ofChange crcSpoiltSpec)) crcSpoiltCard

/-- THE SECOND FORM's CARD OF 'equerrylaw01.CrcSums'. -/
def crcSumsUptoCard : Claim7 := { stood := { row := crcSumsUptoRow, standIns := [], harness := (true, "14e1f570eff48c0b5f244ea1b3f9b61426ecee9653150ebee7a832562e067eca"), looks := false }, kinds := [], alts := [], laidByText := true, laidKinds := [.data], laidTests := true, laidLooks := .later }
def CrcSumsUptoCardSaid : Prop := Claim7.holds Tryd.pinned (.plain (OpenSpec.upto crcSumsSpec)) crcSumsUptoCard

/-- THE SECOND FORM's CARD OF 'equerrylaw01.CrcParts'. -/
def crcPartsUptoCard : Claim7 := { stood := { row := crcPartsUptoRow, standIns := [], harness := (true, "14e1f570eff48c0b5f244ea1b3f9b61426ecee9653150ebee7a832562e067eca"), looks := false }, kinds := [], alts := [], laidByText := true, laidKinds := [.data], laidTests := true, laidLooks := .later }
def CrcPartsUptoCardSaid : Prop := Claim7.holds Tryd.pinned (.plain (OpenSpec.upto crcPartsSpec)) crcPartsUptoCard

/-- THE SECOND FORM's CARD OF 'equerrylaw01.CrcSpoilt'. -/
def crcSpoiltUptoCard : Claim7 := { stood := { row := crcSpoiltUptoRow, standIns := [], harness := (true, "14e1f570eff48c0b5f244ea1b3f9b61426ecee9653150ebee7a832562e067eca"), looks := false }, kinds := [], alts := [], laidByText := true, laidKinds := [.data], laidTests := true, laidLooks := .later }
def CrcSpoiltUptoCardSaid : Prop := Claim7.holds Tryd.pinned (.plain (OpenSpec.upto crcSpoiltSpec)) crcSpoiltUptoCard
end Rows
end Go.Proofs.YtbhbgdohpjcmmaaDoor
