/-
  DERIVED. GIVEN WITH THE SEED: THE CARDS: each row of YtpnllbojifnopaaGreatDoorRows.lean that lists a variable, with what it lists TIED to the program's text (the seventh form; the later family's looks); each row that meets fmt, with fmt's text TOLD by the authors' own Lean function (tested against real Go, not proved from fmt's source: count such statements apart). THE CARD IS WHAT COUNTS. Prove the row's statement (the work); the ties are given (YtpnllbojifnopaaGreatDoorTie.lean); close each card by the builder's one call (the guide's Derived/Test/ToyasCard.lean, 'card_holds'). Laid BY PROGRAM, IN A SANDBOX (cutbox-door.mjs). By AI agents, Wed Nov 11 2026. No macro, syntax, notation, axiom, sorry.
-/
import Derived.Test.YtpnllbojifnopaaGreatDoorRows
import GoSem.ClaimSeven
namespace Go.Proofs.YtpnllbojifnopaaGreatDoor
namespace Rows

/-- THE TIED CARD OF 'equerrylaw14.AutoCompiles'. -/
def autoCompilesCard : Claim7 := { stood := { row := autoCompilesRow, standIns := [], harness := (true, "fd676aec514b47362fe7df2f59b327f570fa4adb86a7e34c67dd65200df3a6aa"), looks := false }, kinds := [], alts := [], laidByText := true, laidKinds := [.data, .data], laidTests := true, laidLooks := .later }
def AutoCompilesCardSaid : Prop := Claim7.holds Tryz.pinned (.plain (OpenSpec.ofChange autoCompilesSpec)) autoCompilesCard

/-- THE TIED CARD OF 'equerrylaw14.AutoIs'. -/
def autoIsCard : Claim7 := { stood := { row := autoIsRow, standIns := [], harness := (true, "fd676aec514b47362fe7df2f59b327f570fa4adb86a7e34c67dd65200df3a6aa"), looks := false }, kinds := [], alts := [], laidByText := true, laidKinds := [.data, .data], laidTests := true, laidLooks := .later }
def AutoIsCardSaid : Prop := Claim7.holds Tryz.pinned (.plain (OpenSpec.ofChange autoIsSpec)) autoIsCard

/-- THE TIED CARD OF 'equerrylaw15.RunsPlays'. -/
def runsPlaysCard : Claim7 := { stood := { row := runsPlaysRow, standIns := [], harness := (true, "fd676aec514b47362fe7df2f59b327f570fa4adb86a7e34c67dd65200df3a6aa"), looks := false }, kinds := [], alts := [], laidByText := true, laidKinds := [.data, .data], laidTests := true, laidLooks := .later }
def RunsPlaysCardSaid : Prop := Claim7.holds Tryz.pinned (.plain (OpenSpec.ofChange runsPlaysSpec)) runsPlaysCard

/-- THE TIED CARD OF 'equerrylaw15.RunsMeans'. -/
def runsMeansCard : Claim7 := { stood := { row := runsMeansRow, standIns := [], harness := (true, "fd676aec514b47362fe7df2f59b327f570fa4adb86a7e34c67dd65200df3a6aa"), looks := false }, kinds := [], alts := [], laidByText := true, laidKinds := [.data, .data], laidTests := true, laidLooks := .later }
def RunsMeansCardSaid : Prop := Claim7.holds Tryz.pinned (.plain (OpenSpec.ofChange runsMeansSpec)) runsMeansCard

/-- THE TIED CARD OF 'equerrylaw15.RunsRestores'. -/
def runsRestoresCard : Claim7 := { stood := { row := runsRestoresRow, standIns := [], harness := (true, "fd676aec514b47362fe7df2f59b327f570fa4adb86a7e34c67dd65200df3a6aa"), looks := false }, kinds := [], alts := [], laidByText := true, laidKinds := [.data, .data], laidTests := true, laidLooks := .later }
def RunsRestoresCardSaid : Prop := Claim7.holds Tryz.pinned (.plain (OpenSpec.ofChange runsRestoresSpec)) runsRestoresCard

/-- THE TIED CARD OF 'equerrylaw15.RunsGoesOn'. -/
def runsGoesOnCard : Claim7 := { stood := { row := runsGoesOnRow, standIns := [], harness := (true, "fd676aec514b47362fe7df2f59b327f570fa4adb86a7e34c67dd65200df3a6aa"), looks := false }, kinds := [], alts := [], laidByText := true, laidKinds := [.data, .data], laidTests := true, laidLooks := .later }
def RunsGoesOnCardSaid : Prop := Claim7.holds Tryz.pinned (.plain (OpenSpec.ofChange runsGoesOnSpec)) runsGoesOnCard

/-- THE TIED CARD OF 'equerrylaw15.RunsNil'. -/
def runsNilCard : Claim7 := { stood := { row := runsNilRow, standIns := [], harness := (true, "fd676aec514b47362fe7df2f59b327f570fa4adb86a7e34c67dd65200df3a6aa"), looks := false }, kinds := [], alts := [], laidByText := true, laidKinds := [.data, .data], laidTests := true, laidLooks := .later }
def RunsNilCardSaid : Prop := Claim7.holds Tryz.pinned (.plain (OpenSpec.ofChange runsNilSpec)) runsNilCard

/-- THE TIED CARD OF 'equerrylaw15.RunsShift'. -/
def runsShiftCard : Claim7 := { stood := { row := runsShiftRow, standIns := [], harness := (true, "fd676aec514b47362fe7df2f59b327f570fa4adb86a7e34c67dd65200df3a6aa"), looks := false }, kinds := [], alts := [], laidByText := true, laidKinds := [.data, .data], laidTests := true, laidLooks := .later }
def RunsShiftCardSaid : Prop := Claim7.holds Tryz.pinned (.plain (OpenSpec.ofChange runsShiftSpec)) runsShiftCard

/-- THE SECOND FORM's CARD OF 'equerrylaw14.AutoCompiles'. -/
def autoCompilesUptoCard : Claim7 := { stood := { row := autoCompilesUptoRow, standIns := [], harness := (true, "fd676aec514b47362fe7df2f59b327f570fa4adb86a7e34c67dd65200df3a6aa"), looks := false }, kinds := [], alts := [], laidByText := true, laidKinds := [.data, .data], laidTests := true, laidLooks := .later }
def AutoCompilesUptoCardSaid : Prop := Claim7.holds Tryz.pinned (.plain (OpenSpec.upto autoCompilesSpec)) autoCompilesUptoCard

/-- THE SECOND FORM's CARD OF 'equerrylaw14.AutoIs'. -/
def autoIsUptoCard : Claim7 := { stood := { row := autoIsUptoRow, standIns := [], harness := (true, "fd676aec514b47362fe7df2f59b327f570fa4adb86a7e34c67dd65200df3a6aa"), looks := false }, kinds := [], alts := [], laidByText := true, laidKinds := [.data, .data], laidTests := true, laidLooks := .later }
def AutoIsUptoCardSaid : Prop := Claim7.holds Tryz.pinned (.plain (OpenSpec.upto autoIsSpec)) autoIsUptoCard

/-- THE SECOND FORM's CARD OF 'equerrylaw15.RunsPlays'. -/
def runsPlaysUptoCard : Claim7 := { stood := { row := runsPlaysUptoRow, standIns := [], harness := (true, "fd676aec514b47362fe7df2f59b327f570fa4adb86a7e34c67dd65200df3a6aa"), looks := false }, kinds := [], alts := [], laidByText := true, laidKinds := [.data, .data], laidTests := true, laidLooks := .later }
def RunsPlaysUptoCardSaid : Prop := Claim7.holds Tryz.pinned (.plain (OpenSpec.upto runsPlaysSpec)) runsPlaysUptoCard

/-- THE SECOND FORM's CARD OF 'equerrylaw15.RunsMeans'. -/
def runsMeansUptoCard : Claim7 := { stood := { row := runsMeansUptoRow, standIns := [], harness := (true, "fd676aec514b47362fe7df2f59b327f570fa4adb86a7e34c67dd65200df3a6aa"), looks := false }, kinds := [], alts := [], laidByText := true, laidKinds := [.data, .data], laidTests := true, laidLooks := .later }
def RunsMeansUptoCardSaid : Prop := Claim7.holds Tryz.pinned (.plain (OpenSpec.upto runsMeansSpec)) runsMeansUptoCard

/-- THE SECOND FORM's CARD OF 'equerrylaw15.RunsRestores'. -/
def runsRestoresUptoCard : Claim7 := { stood := { row := runsRestoresUptoRow, standIns := [], harness := (true, "fd676aec514b47362fe7df2f59b327f570fa4adb86a7e34c67dd65200df3a6aa"), looks := false }, kinds := [], alts := [], laidByText := true, laidKinds := [.data, .data], laidTests := true, laidLooks := .later }
def RunsRestoresUptoCardSaid : Prop := Claim7.holds Tryz.pinned (.plain (OpenSpec.upto runsRestoresSpec)) runsRestoresUptoCard

/-- THE SECOND FORM's CARD OF 'equerrylaw15.RunsGoesOn'. -/
def runsGoesOnUptoCard : Claim7 := { stood := { row := runsGoesOnUptoRow, standIns := [], harness := (true, "fd676aec514b47362fe7df2f59b327f570fa4adb86a7e34c67dd65200df3a6aa"), looks := false }, kinds := [], alts := [], laidByText := true, laidKinds := [.data, .data], laidTests := true, laidLooks := .later }
def RunsGoesOnUptoCardSaid : Prop := Claim7.holds Tryz.pinned (.plain (OpenSpec.upto runsGoesOnSpec)) runsGoesOnUptoCard

/-- THE SECOND FORM's CARD OF 'equerrylaw15.RunsNil'. -/
def runsNilUptoCard : Claim7 := { stood := { row := runsNilUptoRow, standIns := [], harness := (true, "fd676aec514b47362fe7df2f59b327f570fa4adb86a7e34c67dd65200df3a6aa"), looks := false }, kinds := [], alts := [], laidByText := true, laidKinds := [.data, .data], laidTests := true, laidLooks := .later }
def RunsNilUptoCardSaid : Prop := Claim7.holds Tryz.pinned (.plain (OpenSpec.upto runsNilSpec)) runsNilUptoCard

/-- THE SECOND FORM's CARD OF 'equerrylaw15.RunsShift'. -/
def runsShiftUptoCard : Claim7 := { stood := { row := runsShiftUptoRow, standIns := [], harness := (true, "fd676aec514b47362fe7df2f59b327f570fa4adb86a7e34c67dd65200df3a6aa"), looks := false }, kinds := [], alts := [], laidByText := true, laidKinds := [.data, .data], laidTests := true, laidLooks := .later }
def RunsShiftUptoCardSaid : Prop := Claim7.holds Tryz.pinned (.plain (OpenSpec.upto runsShiftSpec)) runsShiftUptoCard
end Rows
end Go.Proofs.YtpnllbojifnopaaGreatDoor
