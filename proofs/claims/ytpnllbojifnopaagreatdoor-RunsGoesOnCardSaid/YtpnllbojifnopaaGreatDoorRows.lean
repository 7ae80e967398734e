/-
  NARROWER THAN 'FOR EVERY INPUT', by the rows' own cells (each row's printed sentence says how): AutoCompiles: laid · AutoIs: laid · RunsPlays: laid · RunsMeans: laid · RunsRestores: laid · RunsGoesOn: laid · RunsNil: laid · RunsShift: laid.
  DERIVED. THE GIVEN ROWS OF THIS SEAT. 8 by the template 'for every input the law returns true; each argument reads behind the call as it read before'; 0 by the template 'total and deterministic' (their statements: YtpnllbojifnopaaGreatDoorTotals.lean).
  GIVEN WITH THE SEED: the statements are not yours to turn. If you find one false, say at which input.
  Laid BY PROGRAM, IN A SANDBOX (cutbox-rows.mjs): the forced cells as the released guide's own fill.sh prints them over the translation 6f6e4a9f55966794… (all of the seat's roots in one cut). By AI agents, Wed Nov 11 2026. No macro, syntax, notation, axiom, sorry.
-/
import Derived.Test.YtpnllbojifnopaaGreatDoorChecked
import GoSem.Claim
import GoSem.ClaimJoined
import GoSem.ClaimMapViews
import Derived.JoinedTies
import Derived.KernelRfl
namespace Go.Proofs.YtpnllbojifnopaaGreatDoor
/- THE CELL 'sum', in the pinned program and in every row, IS THE sha256 OF THE DUMP (.gsa) THAT YtpnllbojifnopaaGreatDoorProg.lean LOADS. Nothing in Lean hashes anything: it is a label: what it is worth is what the hold of that sum in a sandbox is worth. -/
noncomputable def Tryz.pinned : Pinned := { name := "ytpnllbojifnopaagreatdoor", sum := "6f6e4a9f55966794f84292485ebde89dbf5fff235d51c8cdf72092ba5a8bb35d", checked := Tryz.checked }
namespace Rows
def none {H : Type} : Left H := { results := [], args := [] }

/- WHAT THE LISTED PACKAGE-LEVEL VARIABLES READ AS WHEN THE CALL BEGINS. Each datum BY PROGRAM (the guide's laid-datum.mjs) off the statement by which the dump's own 'gosem.cut.vars' lays the variable. In a bare row this is a premise. The card (YtpnllbojifnopaaGreatDoorCards.lean) ties it to the program's text. -/
def laid_math_bits_deBruijn32tab {H : Type} : DataW H := .agg [.lit (.int .u8 0), .lit (.int .u8 1), .lit (.int .u8 28), .lit (.int .u8 2), .lit (.int .u8 29), .lit (.int .u8 14), .lit (.int .u8 24), .lit (.int .u8 3), .lit (.int .u8 30), .lit (.int .u8 22), .lit (.int .u8 20), .lit (.int .u8 15), .lit (.int .u8 25), .lit (.int .u8 17), .lit (.int .u8 4), .lit (.int .u8 8), .lit (.int .u8 31), .lit (.int .u8 27), .lit (.int .u8 13), .lit (.int .u8 23), .lit (.int .u8 21), .lit (.int .u8 19), .lit (.int .u8 16), .lit (.int .u8 7), .lit (.int .u8 26), .lit (.int .u8 12), .lit (.int .u8 18), .lit (.int .u8 6), .lit (.int .u8 11), .lit (.int .u8 5), .lit (.int .u8 10), .lit (.int .u8 9)]
def laid_equerry_pred_sayings {H : Type} : DataW H := .agg [.agg [.lit (.bool false), .lit (.bool false), .lit (.bool false), .lit (.bool false), .lit (.bool false), .lit (.bool false)], .agg [.lit (.bool false), .lit (.bool true), .lit (.bool true), .lit (.bool false), .lit (.bool true), .lit (.bool false)], .agg [.lit (.bool false), .lit (.bool true), .lit (.bool true), .lit (.bool true), .lit (.bool false), .lit (.bool true)], .agg [.lit (.bool false), .lit (.bool true), .lit (.bool true), .lit (.bool true), .lit (.bool false), .lit (.bool false)], .agg [.lit (.bool false), .lit (.bool true), .lit (.bool true), .lit (.bool true), .lit (.bool true), .lit (.bool false)], .agg [.lit (.bool false), .lit (.bool true), .lit (.bool true), .lit (.bool false), .lit (.bool false), .lit (.bool true)], .agg [.lit (.bool false), .lit (.bool true), .lit (.bool true), .lit (.bool false), .lit (.bool true), .lit (.bool true)], .agg [.lit (.bool true), .lit (.bool false), .lit (.bool false), .lit (.bool false), .lit (.bool false), .lit (.bool false)], .agg [.lit (.bool false), .lit (.bool false), .lit (.bool true), .lit (.bool false), .lit (.bool false), .lit (.bool false)]]

/-- 'equerrylaw14.AutoCompiles': WHATEVER THE INPUT: true; the input reads as it did. -/
def autoCompilesSpec : ChangeSpec := { name := "autoCompiles", fn := fun _ => fun
  | [d] => { results := [.lit (.bool true)], args := [d] }
  | _ => none }
def autoCompilesRow : OpenClaim := { program := "ytpnllbojifnopaagreatdoor", sum := "6f6e4a9f55966794f84292485ebde89dbf5fff235d51c8cdf72092ba5a8bb35d", func := "equerry/equerrylaw14.AutoCompiles", spec := "autoCompiles", inPlace := ["math.Float64frombits", "math.Float64bits"], unfollowed := true, recurses := true, named := ["equerry/pred.sayings", "math/bits.deBruijn32tab"], apart := false, laid := [("math/bits.deBruijn32tab", laid_math_bits_deBruijn32tab), ("equerry/pred.sayings", laid_equerry_pred_sayings)] }
def AutoCompilesSaid : Prop := autoCompilesRow.holds Tryz.pinned (OpenSpec.ofChange autoCompilesSpec)

/-- ITS FALSE NEIGHBOUR: 'it returns false'. Refute it at one input. -/
def autoCompilesWrong : ChangeSpec := { name := "autoCompiles", fn := fun _ => fun
  | [d] => { results := [.lit (.bool false)], args := [d] }
  | _ => none }
def AutoCompilesWrongFalsely : Prop := autoCompilesRow.holds Tryz.pinned (OpenSpec.ofChange autoCompilesWrong)

/-- 'equerrylaw14.AutoIs': WHATEVER THE INPUT: true; the input reads as it did. -/
def autoIsSpec : ChangeSpec := { name := "autoIs", fn := fun _ => fun
  | [d1, d2] => { results := [.lit (.bool true)], args := [d1, d2] }
  | _ => none }
def autoIsRow : OpenClaim := { program := "ytpnllbojifnopaagreatdoor", sum := "6f6e4a9f55966794f84292485ebde89dbf5fff235d51c8cdf72092ba5a8bb35d", func := "equerry/equerrylaw14.AutoIs", spec := "autoIs", inPlace := ["math.Float64frombits", "math.Float64bits"], unfollowed := true, recurses := true, named := ["equerry/pred.sayings", "math/bits.deBruijn32tab"], apart := false, laid := [("math/bits.deBruijn32tab", laid_math_bits_deBruijn32tab), ("equerry/pred.sayings", laid_equerry_pred_sayings)] }
def AutoIsSaid : Prop := autoIsRow.holds Tryz.pinned (OpenSpec.ofChange autoIsSpec)

/-- ITS FALSE NEIGHBOUR: 'it returns false'. Refute it at one input. -/
def autoIsWrong : ChangeSpec := { name := "autoIs", fn := fun _ => fun
  | [d1, d2] => { results := [.lit (.bool false)], args := [d1, d2] }
  | _ => none }
def AutoIsWrongFalsely : Prop := autoIsRow.holds Tryz.pinned (OpenSpec.ofChange autoIsWrong)

/-- 'equerrylaw15.RunsPlays': WHATEVER THE INPUT: true; the input reads as it did. -/
def runsPlaysSpec : ChangeSpec := { name := "runsPlays", fn := fun _ => fun
  | [d1, d2, d3] => { results := [.lit (.bool true)], args := [d1, d2, d3] }
  | _ => none }
def runsPlaysRow : OpenClaim := { program := "ytpnllbojifnopaagreatdoor", sum := "6f6e4a9f55966794f84292485ebde89dbf5fff235d51c8cdf72092ba5a8bb35d", func := "equerry/equerrylaw15.RunsPlays", spec := "runsPlays", inPlace := ["math.Float64frombits", "math.Float64bits"], unfollowed := true, recurses := true, named := ["equerry/pred.sayings", "math/bits.deBruijn32tab"], apart := false, laid := [("math/bits.deBruijn32tab", laid_math_bits_deBruijn32tab), ("equerry/pred.sayings", laid_equerry_pred_sayings)] }
def RunsPlaysSaid : Prop := runsPlaysRow.holds Tryz.pinned (OpenSpec.ofChange runsPlaysSpec)

/-- ITS FALSE NEIGHBOUR: 'it returns false'. Refute it at one input. -/
def runsPlaysWrong : ChangeSpec := { name := "runsPlays", fn := fun _ => fun
  | [d1, d2, d3] => { results := [.lit (.bool false)], args := [d1, d2, d3] }
  | _ => none }
def RunsPlaysWrongFalsely : Prop := runsPlaysRow.holds Tryz.pinned (OpenSpec.ofChange runsPlaysWrong)

/-- 'equerrylaw15.RunsMeans': WHATEVER THE INPUT: true; the input reads as it did. -/
def runsMeansSpec : ChangeSpec := { name := "runsMeans", fn := fun _ => fun
  | [d1, d2] => { results := [.lit (.bool true)], args := [d1, d2] }
  | _ => none }
def runsMeansRow : OpenClaim := { program := "ytpnllbojifnopaagreatdoor", sum := "6f6e4a9f55966794f84292485ebde89dbf5fff235d51c8cdf72092ba5a8bb35d", func := "equerry/equerrylaw15.RunsMeans", spec := "runsMeans", inPlace := ["math.Float64frombits", "math.Float64bits"], unfollowed := true, recurses := true, named := ["equerry/pred.sayings", "math/bits.deBruijn32tab"], apart := false, laid := [("math/bits.deBruijn32tab", laid_math_bits_deBruijn32tab), ("equerry/pred.sayings", laid_equerry_pred_sayings)] }
def RunsMeansSaid : Prop := runsMeansRow.holds Tryz.pinned (OpenSpec.ofChange runsMeansSpec)

/-- ITS FALSE NEIGHBOUR: 'it returns false'. Refute it at one input. -/
def runsMeansWrong : ChangeSpec := { name := "runsMeans", fn := fun _ => fun
  | [d1, d2] => { results := [.lit (.bool false)], args := [d1, d2] }
  | _ => none }
def RunsMeansWrongFalsely : Prop := runsMeansRow.holds Tryz.pinned (OpenSpec.ofChange runsMeansWrong)

/-- 'equerrylaw15.RunsRestores': WHATEVER THE INPUT: true; the input reads as it did. -/
def runsRestoresSpec : ChangeSpec := { name := "runsRestores", fn := fun _ => fun
  | [d1, d2, d3] => { results := [.lit (.bool true)], args := [d1, d2, d3] }
  | _ => none }
def runsRestoresRow : OpenClaim := { program := "ytpnllbojifnopaagreatdoor", sum := "6f6e4a9f55966794f84292485ebde89dbf5fff235d51c8cdf72092ba5a8bb35d", func := "equerry/equerrylaw15.RunsRestores", spec := "runsRestores", inPlace := ["math.Float64frombits", "math.Float64bits"], unfollowed := true, recurses := true, named := ["equerry/pred.sayings", "math/bits.deBruijn32tab"], apart := false, laid := [("math/bits.deBruijn32tab", laid_math_bits_deBruijn32tab), ("equerry/pred.sayings", laid_equerry_pred_sayings)] }
def RunsRestoresSaid : Prop := runsRestoresRow.holds Tryz.pinned (OpenSpec.ofChange runsRestoresSpec)

/-- ITS FALSE NEIGHBOUR: 'it returns false'. Refute it at one input. -/
def runsRestoresWrong : ChangeSpec := { name := "runsRestores", fn := fun _ => fun
  | [d1, d2, d3] => { results := [.lit (.bool false)], args := [d1, d2, d3] }
  | _ => none }
def RunsRestoresWrongFalsely : Prop := runsRestoresRow.holds Tryz.pinned (OpenSpec.ofChange runsRestoresWrong)

/-- 'equerrylaw15.RunsGoesOn': WHATEVER THE INPUT: true; the input reads as it did. -/
def runsGoesOnSpec : ChangeSpec := { name := "runsGoesOn", fn := fun _ => fun
  | [d1, d2, d3] => { results := [.lit (.bool true)], args := [d1, d2, d3] }
  | _ => none }
def runsGoesOnRow : OpenClaim := { program := "ytpnllbojifnopaagreatdoor", sum := "6f6e4a9f55966794f84292485ebde89dbf5fff235d51c8cdf72092ba5a8bb35d", func := "equerry/equerrylaw15.RunsGoesOn", spec := "runsGoesOn", inPlace := ["math.Float64frombits", "math.Float64bits"], unfollowed := true, recurses := true, named := ["equerry/pred.sayings", "math/bits.deBruijn32tab"], apart := false, laid := [("math/bits.deBruijn32tab", laid_math_bits_deBruijn32tab), ("equerry/pred.sayings", laid_equerry_pred_sayings)] }
def RunsGoesOnSaid : Prop := runsGoesOnRow.holds Tryz.pinned (OpenSpec.ofChange runsGoesOnSpec)

/-- ITS FALSE NEIGHBOUR: 'it returns false'. Refute it at one input. -/
def runsGoesOnWrong : ChangeSpec := { name := "runsGoesOn", fn := fun _ => fun
  | [d1, d2, d3] => { results := [.lit (.bool false)], args := [d1, d2, d3] }
  | _ => none }
def RunsGoesOnWrongFalsely : Prop := runsGoesOnRow.holds Tryz.pinned (OpenSpec.ofChange runsGoesOnWrong)

/-- 'equerrylaw15.RunsNil': WHATEVER THE INPUT: true; the input reads as it did. -/
def runsNilSpec : ChangeSpec := { name := "runsNil", fn := fun _ => fun
  | [d] => { results := [.lit (.bool true)], args := [d] }
  | _ => none }
def runsNilRow : OpenClaim := { program := "ytpnllbojifnopaagreatdoor", sum := "6f6e4a9f55966794f84292485ebde89dbf5fff235d51c8cdf72092ba5a8bb35d", func := "equerry/equerrylaw15.RunsNil", spec := "runsNil", inPlace := ["math.Float64frombits", "math.Float64bits"], unfollowed := true, recurses := true, named := ["equerry/pred.sayings", "math/bits.deBruijn32tab"], apart := false, laid := [("math/bits.deBruijn32tab", laid_math_bits_deBruijn32tab), ("equerry/pred.sayings", laid_equerry_pred_sayings)] }
def RunsNilSaid : Prop := runsNilRow.holds Tryz.pinned (OpenSpec.ofChange runsNilSpec)

/-- ITS FALSE NEIGHBOUR: 'it returns false'. Refute it at one input. -/
def runsNilWrong : ChangeSpec := { name := "runsNil", fn := fun _ => fun
  | [d] => { results := [.lit (.bool false)], args := [d] }
  | _ => none }
def RunsNilWrongFalsely : Prop := runsNilRow.holds Tryz.pinned (OpenSpec.ofChange runsNilWrong)

/-- 'equerrylaw15.RunsShift': WHATEVER THE INPUT: true; the input reads as it did. -/
def runsShiftSpec : ChangeSpec := { name := "runsShift", fn := fun _ => fun
  | [d1, d2, d3, d4] => { results := [.lit (.bool true)], args := [d1, d2, d3, d4] }
  | _ => none }
def runsShiftRow : OpenClaim := { program := "ytpnllbojifnopaagreatdoor", sum := "6f6e4a9f55966794f84292485ebde89dbf5fff235d51c8cdf72092ba5a8bb35d", func := "equerry/equerrylaw15.RunsShift", spec := "runsShift", inPlace := ["math.Float64frombits", "math.Float64bits"], unfollowed := true, recurses := true, named := ["equerry/pred.sayings", "math/bits.deBruijn32tab"], apart := false, laid := [("math/bits.deBruijn32tab", laid_math_bits_deBruijn32tab), ("equerry/pred.sayings", laid_equerry_pred_sayings)] }
def RunsShiftSaid : Prop := runsShiftRow.holds Tryz.pinned (OpenSpec.ofChange runsShiftSpec)

/-- ITS FALSE NEIGHBOUR: 'it returns false'. Refute it at one input. -/
def runsShiftWrong : ChangeSpec := { name := "runsShift", fn := fun _ => fun
  | [d1, d2, d3, d4] => { results := [.lit (.bool false)], args := [d1, d2, d3, d4] }
  | _ => none }
def RunsShiftWrongFalsely : Prop := runsShiftRow.holds Tryz.pinned (OpenSpec.ofChange runsShiftWrong)

/- THE SECOND FORM. 'bulk': how many values and letters a reading holds, each counted each time it is reached (what is shared counts as often as it is met; a slice's spare places count too). A statement '..UptoSaid' is the law's where the arguments, and the package variables that the reading takes, are together of bulk at most 1048576: NARROWER than '..Said'. Prove '..Said' where nothing that the law and all that it calls make is longer than what came in: it says more and counts as full. Else prove '..UptoSaid'. A law counts once. -/
mutual
def uptoBulk {H : Type} : DataW H → Nat
  | .lit (.string bytes) => bytes.length + 1
  | .lit _ => 1
  | .nil => 1
  | .ptr d => uptoBulk d + 1
  | .slice elems spare => uptoBulkAll elems + uptoBulkAll spare + 1
  | .agg parts => uptoBulkAll parts + 1
  | .iface _ d => uptoBulk d + 1
  | .map entries => uptoBulkEntries entries + 1
  | .held _ => 1
def uptoBulkAll {H : Type} : List (DataW H) → Nat
  | [] => 0
  | d :: r => uptoBulk d + uptoBulkAll r
def uptoBulkEntries {H : Type} : List (Lit × DataW H) → Nat
  | [] => 0
  | x :: r => uptoBulkEntry x + uptoBulkEntries r
def uptoBulkEntry {H : Type} : Lit × DataW H → Nat
  | (.string bytes, d) => bytes.length + uptoBulk d + 1
  | (_, d) => uptoBulk d + 1
 end
def uptoSmall : (H : Type) → List (DataW H) → Bool := fun _ ds => decide (uptoBulkAll ds ≤ 1048576)
def OpenSpec.upto (s : _root_.Go.ChangeSpec) : _root_.Go.OpenSpec := { _root_.Go.OpenSpec.ofChange s with cond := some uptoSmall }

/-- 'equerrylaw14.AutoCompiles', WHERE WHAT IT READS IS OF BULK AT MOST 1048576: true; the input reads as it did. -/
def autoCompilesUptoRow : OpenClaim := { program := "ytpnllbojifnopaagreatdoor", sum := "6f6e4a9f55966794f84292485ebde89dbf5fff235d51c8cdf72092ba5a8bb35d", func := "equerry/equerrylaw14.AutoCompiles", spec := "autoCompiles", inPlace := ["math.Float64frombits", "math.Float64bits"], unfollowed := true, recurses := true, named := ["equerry/pred.sayings", "math/bits.deBruijn32tab"], apart := false, laid := [("math/bits.deBruijn32tab", laid_math_bits_deBruijn32tab), ("equerry/pred.sayings", laid_equerry_pred_sayings)], narrowed := true }
def AutoCompilesUptoSaid : Prop := autoCompilesUptoRow.holds Tryz.pinned (OpenSpec.upto autoCompilesSpec)

/-- 'equerrylaw14.AutoIs', WHERE WHAT IT READS IS OF BULK AT MOST 1048576: true; the input reads as it did. -/
def autoIsUptoRow : OpenClaim := { program := "ytpnllbojifnopaagreatdoor", sum := "6f6e4a9f55966794f84292485ebde89dbf5fff235d51c8cdf72092ba5a8bb35d", func := "equerry/equerrylaw14.AutoIs", spec := "autoIs", inPlace := ["math.Float64frombits", "math.Float64bits"], unfollowed := true, recurses := true, named := ["equerry/pred.sayings", "math/bits.deBruijn32tab"], apart := false, laid := [("math/bits.deBruijn32tab", laid_math_bits_deBruijn32tab), ("equerry/pred.sayings", laid_equerry_pred_sayings)], narrowed := true }
def AutoIsUptoSaid : Prop := autoIsUptoRow.holds Tryz.pinned (OpenSpec.upto autoIsSpec)

/-- 'equerrylaw15.RunsPlays', WHERE WHAT IT READS IS OF BULK AT MOST 1048576: true; the input reads as it did. -/
def runsPlaysUptoRow : OpenClaim := { program := "ytpnllbojifnopaagreatdoor", sum := "6f6e4a9f55966794f84292485ebde89dbf5fff235d51c8cdf72092ba5a8bb35d", func := "equerry/equerrylaw15.RunsPlays", spec := "runsPlays", inPlace := ["math.Float64frombits", "math.Float64bits"], unfollowed := true, recurses := true, named := ["equerry/pred.sayings", "math/bits.deBruijn32tab"], apart := false, laid := [("math/bits.deBruijn32tab", laid_math_bits_deBruijn32tab), ("equerry/pred.sayings", laid_equerry_pred_sayings)], narrowed := true }
def RunsPlaysUptoSaid : Prop := runsPlaysUptoRow.holds Tryz.pinned (OpenSpec.upto runsPlaysSpec)

/-- 'equerrylaw15.RunsMeans', WHERE WHAT IT READS IS OF BULK AT MOST 1048576: true; the input reads as it did. -/
def runsMeansUptoRow : OpenClaim := { program := "ytpnllbojifnopaagreatdoor", sum := "6f6e4a9f55966794f84292485ebde89dbf5fff235d51c8cdf72092ba5a8bb35d", func := "equerry/equerrylaw15.RunsMeans", spec := "runsMeans", inPlace := ["math.Float64frombits", "math.Float64bits"], unfollowed := true, recurses := true, named := ["equerry/pred.sayings", "math/bits.deBruijn32tab"], apart := false, laid := [("math/bits.deBruijn32tab", laid_math_bits_deBruijn32tab), ("equerry/pred.sayings", laid_equerry_pred_sayings)], narrowed := true }
def RunsMeansUptoSaid : Prop := runsMeansUptoRow.holds Tryz.pinned (OpenSpec.upto runsMeansSpec)

/-- 'equerrylaw15.RunsRestores', WHERE WHAT IT READS IS OF BULK AT MOST 1048576: true; the input reads as it did. -/
def runsRestoresUptoRow : OpenClaim := { program := "ytpnllbojifnopaagreatdoor", sum := "6f6e4a9f55966794f84292485ebde89dbf5fff235d51c8cdf72092ba5a8bb35d", func := "equerry/equerrylaw15.RunsRestores", spec := "runsRestores", inPlace := ["math.Float64frombits", "math.Float64bits"], unfollowed := true, recurses := true, named := ["equerry/pred.sayings", "math/bits.deBruijn32tab"], apart := false, laid := [("math/bits.deBruijn32tab", laid_math_bits_deBruijn32tab), ("equerry/pred.sayings", laid_equerry_pred_sayings)], narrowed := true }
def RunsRestoresUptoSaid : Prop := runsRestoresUptoRow.holds Tryz.pinned (OpenSpec.upto runsRestoresSpec)

/-- 'equerrylaw15.RunsGoesOn', WHERE WHAT IT READS IS OF BULK AT MOST 1048576: true; the input reads as it did. -/
def runsGoesOnUptoRow : OpenClaim := { program := "ytpnllbojifnopaagreatdoor", sum := "6f6e4a9f55966794f84292485ebde89dbf5fff235d51c8cdf72092ba5a8bb35d", func := "equerry/equerrylaw15.RunsGoesOn", spec := "runsGoesOn", inPlace := ["math.Float64frombits", "math.Float64bits"], unfollowed := true, recurses := true, named := ["equerry/pred.sayings", "math/bits.deBruijn32tab"], apart := false, laid := [("math/bits.deBruijn32tab", laid_math_bits_deBruijn32tab), ("equerry/pred.sayings", laid_equerry_pred_sayings)], narrowed := true }
def RunsGoesOnUptoSaid : Prop := runsGoesOnUptoRow.holds Tryz.pinned (OpenSpec.upto runsGoesOnSpec)

/-- 'equerrylaw15.RunsNil', WHERE WHAT IT READS IS OF BULK AT MOST 1048576: true; the input reads as it did. -/
def runsNilUptoRow : OpenClaim := { program := "ytpnllbojifnopaagreatdoor", sum := "6f6e4a9f55966794f84292485ebde89dbf5fff235d51c8cdf72092ba5a8bb35d", func := "equerry/equerrylaw15.RunsNil", spec := "runsNil", inPlace := ["math.Float64frombits", "math.Float64bits"], unfollowed := true, recurses := true, named := ["equerry/pred.sayings", "math/bits.deBruijn32tab"], apart := false, laid := [("math/bits.deBruijn32tab", laid_math_bits_deBruijn32tab), ("equerry/pred.sayings", laid_equerry_pred_sayings)], narrowed := true }
def RunsNilUptoSaid : Prop := runsNilUptoRow.holds Tryz.pinned (OpenSpec.upto runsNilSpec)

/-- 'equerrylaw15.RunsShift', WHERE WHAT IT READS IS OF BULK AT MOST 1048576: true; the input reads as it did. -/
def runsShiftUptoRow : OpenClaim := { program := "ytpnllbojifnopaagreatdoor", sum := "6f6e4a9f55966794f84292485ebde89dbf5fff235d51c8cdf72092ba5a8bb35d", func := "equerry/equerrylaw15.RunsShift", spec := "runsShift", inPlace := ["math.Float64frombits", "math.Float64bits"], unfollowed := true, recurses := true, named := ["equerry/pred.sayings", "math/bits.deBruijn32tab"], apart := false, laid := [("math/bits.deBruijn32tab", laid_math_bits_deBruijn32tab), ("equerry/pred.sayings", laid_equerry_pred_sayings)], narrowed := true }
def RunsShiftUptoSaid : Prop := runsShiftUptoRow.holds Tryz.pinned (OpenSpec.upto runsShiftSpec)

end Rows
end Go.Proofs.YtpnllbojifnopaaGreatDoor
