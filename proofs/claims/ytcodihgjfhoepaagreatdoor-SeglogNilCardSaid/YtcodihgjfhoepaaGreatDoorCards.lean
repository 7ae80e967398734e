/-
  DERIVED. GIVEN WITH THE SEED: THE CARDS: each row of YtcodihgjfhoepaaGreatDoorRows.lean that lists a variable, with what it lists TIED to the program's text (the seventh form; the later family's looks); each row that meets fmt, with fmt's text TOLD by the authors' own Lean function (tested against real Go, not proved from fmt's source: count such statements apart). THE CARD IS WHAT COUNTS. Prove the row's statement (the work); the ties are given (YtcodihgjfhoepaaGreatDoorTie.lean); close each card by the builder's one call (the guide's Derived/Test/ToyasCard.lean, 'card_holds'). Laid BY PROGRAM, IN A SANDBOX (cutbox-door.mjs). By AI agents, Wed Nov 11 2026. No macro, syntax, notation, axiom, sorry.
-/
import Derived.Test.YtcodihgjfhoepaaGreatDoorRows
import GoSem.ClaimSeven
namespace Go.Proofs.YtcodihgjfhoepaaGreatDoor
namespace Rows

/-- THE TIED CARD OF 'equerrylaw09.SeglogSafe'. -/
def seglogSafeCard : Claim7 := { stood := { row := seglogSafeRow, standIns := [], harness := (true, "1a2469cbc5296702d6a2cce38b5431c8dd215e56635387c880ec9cd46c3d5616"), looks := false }, kinds := [], alts := [], laidByText := true, laidKinds := [.data, .data, .data, .data], laidTests := true, laidLooks := .later }
def SeglogSafeCardSaid : Prop := Claim7.holds Tryz.pinned (.plain (OpenSpec.ofChange seglogSafeSpec)) seglogSafeCard

/-- THE TIED CARD OF 'equerrylaw09.SeglogAgain'. -/
def seglogAgainCard : Claim7 := { stood := { row := seglogAgainRow, standIns := [], harness := (true, "1a2469cbc5296702d6a2cce38b5431c8dd215e56635387c880ec9cd46c3d5616"), looks := false }, kinds := [], alts := [], laidByText := true, laidKinds := [.data, .data, .data, .data], laidTests := true, laidLooks := .later }
def SeglogAgainCardSaid : Prop := Claim7.holds Tryz.pinned (.plain (OpenSpec.ofChange seglogAgainSpec)) seglogAgainCard

/-- THE TIED CARD OF 'equerrylaw09.SeglogNil'. -/
def seglogNilCard : Claim7 := { stood := { row := seglogNilRow, standIns := [], harness := (true, "1a2469cbc5296702d6a2cce38b5431c8dd215e56635387c880ec9cd46c3d5616"), looks := false }, kinds := [], alts := [], laidByText := true, laidKinds := [.data, .data, .data, .data], laidTests := true, laidLooks := .later }
def SeglogNilCardSaid : Prop := Claim7.holds Tryz.pinned (.plain (OpenSpec.ofChange seglogNilSpec)) seglogNilCard

/-- THE TIED CARD OF 'equerrylaw09.SeglogTrims'. -/
def seglogTrimsCard : Claim7 := { stood := { row := seglogTrimsRow, standIns := [], harness := (true, "1a2469cbc5296702d6a2cce38b5431c8dd215e56635387c880ec9cd46c3d5616"), looks := false }, kinds := [], alts := [], laidByText := true, laidKinds := [.data, .data, .data, .data], laidTests := true, laidLooks := .later }
def SeglogTrimsCardSaid : Prop := Claim7.holds Tryz.pinned (.plain (OpenSpec.ofChange seglogTrimsSpec)) seglogTrimsCard

/-- THE SECOND FORM's CARD OF 'equerrylaw09.SeglogSafe'. -/
def seglogSafeUptoCard : Claim7 := { stood := { row := seglogSafeUptoRow, standIns := [], harness := (true, "1a2469cbc5296702d6a2cce38b5431c8dd215e56635387c880ec9cd46c3d5616"), looks := false }, kinds := [], alts := [], laidByText := true, laidKinds := [.data, .data, .data, .data], laidTests := true, laidLooks := .later }
def SeglogSafeUptoCardSaid : Prop := Claim7.holds Tryz.pinned (.plain (OpenSpec.upto seglogSafeSpec)) seglogSafeUptoCard

/-- THE SECOND FORM's CARD OF 'equerrylaw09.SeglogAgain'. -/
def seglogAgainUptoCard : Claim7 := { stood := { row := seglogAgainUptoRow, standIns := [], harness := (true, "1a2469cbc5296702d6a2cce38b5431c8dd215e56635387c880ec9cd46c3d5616"), looks := false }, kinds := [], alts := [], laidByText := true, laidKinds := [.data, .data, .data, .data], laidTests := true, laidLooks := .later }
def SeglogAgainUptoCardSaid : Prop := Claim7.holds Tryz.pinned (.plain (OpenSpec.upto seglogAgainSpec)) seglogAgainUptoCard

/-- THE SECOND FORM's CARD OF 'equerrylaw09.SeglogNil'. -/
def seglogNilUptoCard : Claim7 := { stood := { row := seglogNilUptoRow, standIns := [], harness := (true, "1a2469cbc5296702d6a2cce38b5431c8dd215e56635387c880ec9cd46c3d5616"), looks := false }, kinds := [], alts := [], laidByText := true, laidKinds := [.data, .data, .data, .data], laidTests := true, laidLooks := .later }
def SeglogNilUptoCardSaid : Prop := Claim7.holds Tryz.pinned (.plain (OpenSpec.upto seglogNilSpec)) seglogNilUptoCard

/-- THE SECOND FORM's CARD OF 'equerrylaw09.SeglogTrims'. -/
def seglogTrimsUptoCard : Claim7 := { stood := { row := seglogTrimsUptoRow, standIns := [], harness := (true, "1a2469cbc5296702d6a2cce38b5431c8dd215e56635387c880ec9cd46c3d5616"), looks := false }, kinds := [], alts := [], laidByText := true, laidKinds := [.data, .data, .data, .data], laidTests := true, laidLooks := .later }
def SeglogTrimsUptoCardSaid : Prop := Claim7.holds Tryz.pinned (.plain (OpenSpec.upto seglogTrimsSpec)) seglogTrimsUptoCard
end Rows
end Go.Proofs.YtcodihgjfhoepaaGreatDoor
