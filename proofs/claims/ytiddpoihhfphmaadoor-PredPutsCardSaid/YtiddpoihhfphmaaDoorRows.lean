/-
  NARROWER THAN 'FOR EVERY INPUT', by the rows' own cells (each row's printed sentence says how): PredHolds: laid · PredPuts: laid · PredSame: laid · PredThree: laid.
  DERIVED. THE GIVEN ROWS OF THIS SEAT. 4 by the template 'for every input the law returns true; each argument reads behind the call as it read before'; 0 by the template 'total and deterministic' (their statements: YtiddpoihhfphmaaDoorTotals.lean).
  GIVEN WITH THE SEED: the statements are not yours to turn. If you find one false, say at which input.
  Laid BY PROGRAM, IN A SANDBOX (cutbox-rows.mjs): the forced cells as the released guide's own fill.sh prints them over the translation 7bbfb20a45a98071… (all of the seat's roots in one cut). By AI agents, Wed Nov 11 2026. No macro, syntax, notation, axiom, sorry.
-/
import Derived.Test.YtiddpoihhfphmaaDoorChecked
import GoSem.Claim
import GoSem.ClaimJoined
import GoSem.ClaimMapViews
import Derived.JoinedTies
import Derived.KernelRfl
namespace Go.Proofs.YtiddpoihhfphmaaDoor
/- THE CELL 'sum', in the pinned program and in every row, IS THE sha256 OF THE DUMP (.gsa) THAT YtiddpoihhfphmaaDoorProg.lean LOADS. Nothing in Lean hashes anything: it is a label: what it is worth is what the hold of that sum in a sandbox is worth. -/
noncomputable def Tryd.pinned : Pinned := { name := "ytiddpoihhfphmaadoor", sum := "7bbfb20a45a98071482a2f6781cdbd2a72afe31304ca6dc07da083f3c5404706", checked := Tryd.checked }
namespace Rows
def none {H : Type} : Left H := { results := [], args := [] }

/- WHAT THE LISTED PACKAGE-LEVEL VARIABLES READ AS WHEN THE CALL BEGINS. Each datum BY PROGRAM (the guide's laid-datum.mjs) off the statement by which the dump's own 'gosem.cut.vars' lays the variable. In a bare row this is a premise. The card (YtiddpoihhfphmaaDoorCards.lean) ties it to the program's text. -/
def laid_equerry_pred_sayings {H : Type} : DataW H := .agg [.agg [.lit (.bool false), .lit (.bool false), .lit (.bool false), .lit (.bool false), .lit (.bool false), .lit (.bool false)], .agg [.lit (.bool false), .lit (.bool true), .lit (.bool true), .lit (.bool false), .lit (.bool true), .lit (.bool false)], .agg [.lit (.bool false), .lit (.bool true), .lit (.bool true), .lit (.bool true), .lit (.bool false), .lit (.bool true)], .agg [.lit (.bool false), .lit (.bool true), .lit (.bool true), .lit (.bool true), .lit (.bool false), .lit (.bool false)], .agg [.lit (.bool false), .lit (.bool true), .lit (.bool true), .lit (.bool true), .lit (.bool true), .lit (.bool false)], .agg [.lit (.bool false), .lit (.bool true), .lit (.bool true), .lit (.bool false), .lit (.bool false), .lit (.bool true)], .agg [.lit (.bool false), .lit (.bool true), .lit (.bool true), .lit (.bool false), .lit (.bool true), .lit (.bool true)], .agg [.lit (.bool true), .lit (.bool false), .lit (.bool false), .lit (.bool false), .lit (.bool false), .lit (.bool false)], .agg [.lit (.bool false), .lit (.bool false), .lit (.bool true), .lit (.bool false), .lit (.bool false), .lit (.bool false)]]

/-- 'equerrylaw10.PredHolds': WHATEVER THE INPUT: true; the input reads as it did. -/
def predHoldsSpec : ChangeSpec := { name := "predHolds", fn := fun _ => fun
  | [d1, d2] => { results := [.lit (.bool true)], args := [d1, d2] }
  | _ => none }
def predHoldsRow : OpenClaim := { program := "ytiddpoihhfphmaadoor", sum := "7bbfb20a45a98071482a2f6781cdbd2a72afe31304ca6dc07da083f3c5404706", func := "equerry/equerrylaw10.PredHolds", spec := "predHolds", inPlace := ["math.Float64frombits", "math.Float64bits"], unfollowed := true, recurses := true, named := ["equerry/pred.sayings"], apart := false, laid := [("equerry/pred.sayings", laid_equerry_pred_sayings)] }
def PredHoldsSaid : Prop := predHoldsRow.holds Tryd.pinned (OpenSpec.ofChange predHoldsSpec)

/-- ITS FALSE NEIGHBOUR: 'it returns false'. Refute it at one input. -/
def predHoldsWrong : ChangeSpec := { name := "predHolds", fn := fun _ => fun
  | [d1, d2] => { results := [.lit (.bool false)], args := [d1, d2] }
  | _ => none }
def PredHoldsWrongFalsely : Prop := predHoldsRow.holds Tryd.pinned (OpenSpec.ofChange predHoldsWrong)

/-- 'equerrylaw10.PredPuts': WHATEVER THE INPUT: true; the input reads as it did. -/
def predPutsSpec : ChangeSpec := { name := "predPuts", fn := fun _ => fun
  | [d1, d2] => { results := [.lit (.bool true)], args := [d1, d2] }
  | _ => none }
def predPutsRow : OpenClaim := { program := "ytiddpoihhfphmaadoor", sum := "7bbfb20a45a98071482a2f6781cdbd2a72afe31304ca6dc07da083f3c5404706", func := "equerry/equerrylaw10.PredPuts", spec := "predPuts", inPlace := ["math.Float64frombits", "math.Float64bits"], unfollowed := true, recurses := true, named := ["equerry/pred.sayings"], apart := false, laid := [("equerry/pred.sayings", laid_equerry_pred_sayings)] }
def PredPutsSaid : Prop := predPutsRow.holds Tryd.pinned (OpenSpec.ofChange predPutsSpec)

/-- ITS FALSE NEIGHBOUR: 'it returns false'. Refute it at one input. -/
def predPutsWrong : ChangeSpec := { name := "predPuts", fn := fun _ => fun
  | [d1, d2] => { results := [.lit (.bool false)], args := [d1, d2] }
  | _ => none }
def PredPutsWrongFalsely : Prop := predPutsRow.holds Tryd.pinned (OpenSpec.ofChange predPutsWrong)

/-- 'equerrylaw10.PredSame': WHATEVER THE INPUT: true; the input reads as it did. -/
def predSameSpec : ChangeSpec := { name := "predSame", fn := fun _ => fun
  | [d1, d2] => { results := [.lit (.bool true)], args := [d1, d2] }
  | _ => none }
def predSameRow : OpenClaim := { program := "ytiddpoihhfphmaadoor", sum := "7bbfb20a45a98071482a2f6781cdbd2a72afe31304ca6dc07da083f3c5404706", func := "equerry/equerrylaw10.PredSame", spec := "predSame", inPlace := ["math.Float64frombits", "math.Float64bits"], unfollowed := true, recurses := true, named := ["equerry/pred.sayings"], apart := false, laid := [("equerry/pred.sayings", laid_equerry_pred_sayings)] }
def PredSameSaid : Prop := predSameRow.holds Tryd.pinned (OpenSpec.ofChange predSameSpec)

/-- ITS FALSE NEIGHBOUR: 'it returns false'. Refute it at one input. -/
def predSameWrong : ChangeSpec := { name := "predSame", fn := fun _ => fun
  | [d1, d2] => { results := [.lit (.bool false)], args := [d1, d2] }
  | _ => none }
def PredSameWrongFalsely : Prop := predSameRow.holds Tryd.pinned (OpenSpec.ofChange predSameWrong)

/-- 'equerrylaw10.PredThree': WHATEVER THE INPUT: true; the input reads as it did. -/
def predThreeSpec : ChangeSpec := { name := "predThree", fn := fun _ => fun
  | [d1, d2] => { results := [.lit (.bool true)], args := [d1, d2] }
  | _ => none }
def predThreeRow : OpenClaim := { program := "ytiddpoihhfphmaadoor", sum := "7bbfb20a45a98071482a2f6781cdbd2a72afe31304ca6dc07da083f3c5404706", func := "equerry/equerrylaw10.PredThree", spec := "predThree", inPlace := ["math.Float64bits", "math.Float64frombits"], unfollowed := true, recurses := true, named := ["equerry/pred.sayings"], apart := false, laid := [("equerry/pred.sayings", laid_equerry_pred_sayings)] }
def PredThreeSaid : Prop := predThreeRow.holds Tryd.pinned (OpenSpec.ofChange predThreeSpec)

/-- ITS FALSE NEIGHBOUR: 'it returns false'. Refute it at one input. -/
def predThreeWrong : ChangeSpec := { name := "predThree", fn := fun _ => fun
  | [d1, d2] => { results := [.lit (.bool false)], args := [d1, d2] }
  | _ => none }
def PredThreeWrongFalsely : Prop := predThreeRow.holds Tryd.pinned (OpenSpec.ofChange predThreeWrong)

/- THE SECOND FORM. 'bulk': how many values and letters a reading holds, each counted each time it is reached (what is shared counts as often as it is met; a slice's spare places count too). A statement '..UptoSaid' is the law's where the arguments, and the package variables that the reading takes, are together of bulk at most 1048576: NARROWER than '..Said'. Prove '..Said' where nothing that the law and all that it calls make is longer than what came in: it says more and counts as full. Else prove '..UptoSaid'. A law counts once. -/
mutual
def uptoBulk {H : Type} : DataW H → Nat
  | .lit (.string bytes) => bytes.length + 1
  | .lit _ => 1
  | .nil => 1
  | .ptr d => uptoBulk d + 1
  | .slice elems spare => uptoBulkAll elems + uptoBulkAll spare + 1
  | .agg parts => uptoBulkAll parts + 1
  | .iface _ d => uptoBulk d + 1
  | .map entries => uptoBulkEntries entries + 1
  | .held _ => 1
def uptoBulkAll {H : Type} : List (DataW H) → Nat
  | [] => 0
  | d :: r => uptoBulk d + uptoBulkAll r
def uptoBulkEntries {H : Type} : List (Lit × DataW H) → Nat
  | [] => 0
  | x :: r => uptoBulkEntry x + uptoBulkEntries r
def uptoBulkEntry {H : Type} : Lit × DataW H → Nat
  | (.string bytes, d) => bytes.length + uptoBulk d + 1
  | (_, d) => uptoBulk d + 1
 end
def uptoSmall : (H : Type) → List (DataW H) → Bool := fun _ ds => decide (uptoBulkAll ds ≤ 1048576)
def OpenSpec.upto (s : _root_.Go.ChangeSpec) : _root_.Go.OpenSpec := { _root_.Go.OpenSpec.ofChange s with cond := some uptoSmall }

/-- 'equerrylaw10.PredHolds', WHERE WHAT IT READS IS OF BULK AT MOST 1048576: true; the input reads as it did. -/
def predHoldsUptoRow : OpenClaim := { program := "ytiddpoihhfphmaadoor", sum := "7bbfb20a45a98071482a2f6781cdbd2a72afe31304ca6dc07da083f3c5404706", func := "equerry/equerrylaw10.PredHolds", spec := "predHolds", inPlace := ["math.Float64frombits", "math.Float64bits"], unfollowed := true, recurses := true, named := ["equerry/pred.sayings"], apart := false, laid := [("equerry/pred.sayings", laid_equerry_pred_sayings)], narrowed := true }
def PredHoldsUptoSaid : Prop := predHoldsUptoRow.holds Tryd.pinned (OpenSpec.upto predHoldsSpec)

/-- 'equerrylaw10.PredPuts', WHERE WHAT IT READS IS OF BULK AT MOST 1048576: true; the input reads as it did. -/
def predPutsUptoRow : OpenClaim := { program := "ytiddpoihhfphmaadoor", sum := "7bbfb20a45a98071482a2f6781cdbd2a72afe31304ca6dc07da083f3c5404706", func := "equerry/equerrylaw10.PredPuts", spec := "predPuts", inPlace := ["math.Float64frombits", "math.Float64bits"], unfollowed := true, recurses := true, named := ["equerry/pred.sayings"], apart := false, laid := [("equerry/pred.sayings", laid_equerry_pred_sayings)], narrowed := true }
def PredPutsUptoSaid : Prop := predPutsUptoRow.holds Tryd.pinned (OpenSpec.upto predPutsSpec)

/-- 'equerrylaw10.PredSame', WHERE WHAT IT READS IS OF BULK AT MOST 1048576: true; the input reads as it did. -/
def predSameUptoRow : OpenClaim := { program := "ytiddpoihhfphmaadoor", sum := "7bbfb20a45a98071482a2f6781cdbd2a72afe31304ca6dc07da083f3c5404706", func := "equerry/equerrylaw10.PredSame", spec := "predSame", inPlace := ["math.Float64frombits", "math.Float64bits"], unfollowed := true, recurses := true, named := ["equerry/pred.sayings"], apart := false, laid := [("equerry/pred.sayings", laid_equerry_pred_sayings)], narrowed := true }
def PredSameUptoSaid : Prop := predSameUptoRow.holds Tryd.pinned (OpenSpec.upto predSameSpec)

/-- 'equerrylaw10.PredThree', WHERE WHAT IT READS IS OF BULK AT MOST 1048576: true; the input reads as it did. -/
def predThreeUptoRow : OpenClaim := { program := "ytiddpoihhfphmaadoor", sum := "7bbfb20a45a98071482a2f6781cdbd2a72afe31304ca6dc07da083f3c5404706", func := "equerry/equerrylaw10.PredThree", spec := "predThree", inPlace := ["math.Float64bits", "math.Float64frombits"], unfollowed := true, recurses := true, named := ["equerry/pred.sayings"], apart := false, laid := [("equerry/pred.sayings", laid_equerry_pred_sayings)], narrowed := true }
def PredThreeUptoSaid : Prop := predThreeUptoRow.holds Tryd.pinned (OpenSpec.upto predThreeSpec)

end Rows
end Go.Proofs.YtiddpoihhfphmaaDoor
