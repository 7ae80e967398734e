/-
  NARROWER THAN 'FOR EVERY INPUT', by the rows' own cells (each row's printed sentence says how): DenMatches: laid · DenHappens: laid · DenAlt: laid · DenRep: laid · DenLess: laid.
  DERIVED. THE GIVEN ROWS OF THIS SEAT. 5 by the template 'for every input the law returns true; each argument reads behind the call as it read before'; 0 by the template 'total and deterministic' (their statements: YtccjflioaajgiaaGreatDoorTotals.lean).
  GIVEN WITH THE SEED: the statements are not yours to turn. If you find one false, say at which input.
  Laid BY PROGRAM, IN A SANDBOX (cutbox-rows.mjs): the forced cells as the released guide's own fill.sh prints them over the translation 0d90bd5dfafa96a2… (all of the seat's roots in one cut). By AI agents, Wed Nov 11 2026. No macro, syntax, notation, axiom, sorry.
-/
import Derived.Test.YtccjflioaajgiaaGreatDoorChecked
import GoSem.Claim
import GoSem.ClaimJoined
import GoSem.ClaimMapViews
import Derived.JoinedTies
import Derived.KernelRfl
namespace Go.Proofs.YtccjflioaajgiaaGreatDoor
/- THE CELL 'sum', in the pinned program and in every row, IS THE sha256 OF THE DUMP (.gsa) THAT YtccjflioaajgiaaGreatDoorProg.lean LOADS. Nothing in Lean hashes anything: it is a label: what it is worth is what the hold of that sum in a sandbox is worth. -/
noncomputable def Tryz.pinned : Pinned := { name := "ytccjflioaajgiaagreatdoor", sum := "0d90bd5dfafa96a23733ecf3755e09281970a671c8abb499c1318d05174c6181", checked := Tryz.checked }
namespace Rows
def none {H : Type} : Left H := { results := [], args := [] }

/- WHAT THE LISTED PACKAGE-LEVEL VARIABLES READ AS WHEN THE CALL BEGINS. Each datum BY PROGRAM (the guide's laid-datum.mjs) off the statement by which the dump's own 'gosem.cut.vars' lays the variable. In a bare row this is a premise. The card (YtccjflioaajgiaaGreatDoorCards.lean) ties it to the program's text. -/
def laid_equerry_pred_sayings {H : Type} : DataW H := .agg [.agg [.lit (.bool false), .lit (.bool false), .lit (.bool false), .lit (.bool false), .lit (.bool false), .lit (.bool false)], .agg [.lit (.bool false), .lit (.bool true), .lit (.bool true), .lit (.bool false), .lit (.bool true), .lit (.bool false)], .agg [.lit (.bool false), .lit (.bool true), .lit (.bool true), .lit (.bool true), .lit (.bool false), .lit (.bool true)], .agg [.lit (.bool false), .lit (.bool true), .lit (.bool true), .lit (.bool true), .lit (.bool false), .lit (.bool false)], .agg [.lit (.bool false), .lit (.bool true), .lit (.bool true), .lit (.bool true), .lit (.bool true), .lit (.bool false)], .agg [.lit (.bool false), .lit (.bool true), .lit (.bool true), .lit (.bool false), .lit (.bool false), .lit (.bool true)], .agg [.lit (.bool false), .lit (.bool true), .lit (.bool true), .lit (.bool false), .lit (.bool true), .lit (.bool true)], .agg [.lit (.bool true), .lit (.bool false), .lit (.bool false), .lit (.bool false), .lit (.bool false), .lit (.bool false)], .agg [.lit (.bool false), .lit (.bool false), .lit (.bool true), .lit (.bool false), .lit (.bool false), .lit (.bool false)]]

/-- 'equerrylaw12.DenMatches': WHATEVER THE INPUT: true; the input reads as it did. -/
def denMatchesSpec : ChangeSpec := { name := "denMatches", fn := fun _ => fun
  | [d1, d2] => { results := [.lit (.bool true)], args := [d1, d2] }
  | _ => none }
def denMatchesRow : OpenClaim := { program := "ytccjflioaajgiaagreatdoor", sum := "0d90bd5dfafa96a23733ecf3755e09281970a671c8abb499c1318d05174c6181", func := "equerry/equerrylaw12.DenMatches", spec := "denMatches", inPlace := ["math.Float64frombits", "math.Float64bits"], unfollowed := true, recurses := true, named := ["equerry/pred.sayings"], plainKeys := false, apart := false, laid := [("equerry/pred.sayings", laid_equerry_pred_sayings)] }
def DenMatchesSaid : Prop := denMatchesRow.holds Tryz.pinned (OpenSpec.ofChange denMatchesSpec)

/-- ITS FALSE NEIGHBOUR: 'it returns false'. Refute it at one input. -/
def denMatchesWrong : ChangeSpec := { name := "denMatches", fn := fun _ => fun
  | [d1, d2] => { results := [.lit (.bool false)], args := [d1, d2] }
  | _ => none }
def DenMatchesWrongFalsely : Prop := denMatchesRow.holds Tryz.pinned (OpenSpec.ofChange denMatchesWrong)

/-- 'equerrylaw12.DenHappens': WHATEVER THE INPUT: true; the input reads as it did. -/
def denHappensSpec : ChangeSpec := { name := "denHappens", fn := fun _ => fun
  | [d1, d2, d3, d4] => { results := [.lit (.bool true)], args := [d1, d2, d3, d4] }
  | _ => none }
def denHappensRow : OpenClaim := { program := "ytccjflioaajgiaagreatdoor", sum := "0d90bd5dfafa96a23733ecf3755e09281970a671c8abb499c1318d05174c6181", func := "equerry/equerrylaw12.DenHappens", spec := "denHappens", inPlace := ["math.Float64frombits", "math.Float64bits"], unfollowed := true, recurses := true, named := ["equerry/pred.sayings"], plainKeys := false, apart := false, laid := [("equerry/pred.sayings", laid_equerry_pred_sayings)] }
def DenHappensSaid : Prop := denHappensRow.holds Tryz.pinned (OpenSpec.ofChange denHappensSpec)

/-- ITS FALSE NEIGHBOUR: 'it returns false'. Refute it at one input. -/
def denHappensWrong : ChangeSpec := { name := "denHappens", fn := fun _ => fun
  | [d1, d2, d3, d4] => { results := [.lit (.bool false)], args := [d1, d2, d3, d4] }
  | _ => none }
def DenHappensWrongFalsely : Prop := denHappensRow.holds Tryz.pinned (OpenSpec.ofChange denHappensWrong)

/-- 'equerrylaw12.DenAlt': WHATEVER THE INPUT: true; the input reads as it did. -/
def denAltSpec : ChangeSpec := { name := "denAlt", fn := fun _ => fun
  | [d1, d2, d3] => { results := [.lit (.bool true)], args := [d1, d2, d3] }
  | _ => none }
def denAltRow : OpenClaim := { program := "ytccjflioaajgiaagreatdoor", sum := "0d90bd5dfafa96a23733ecf3755e09281970a671c8abb499c1318d05174c6181", func := "equerry/equerrylaw12.DenAlt", spec := "denAlt", inPlace := ["math.Float64frombits", "math.Float64bits"], unfollowed := true, recurses := true, named := ["equerry/pred.sayings"], plainKeys := false, apart := false, laid := [("equerry/pred.sayings", laid_equerry_pred_sayings)] }
def DenAltSaid : Prop := denAltRow.holds Tryz.pinned (OpenSpec.ofChange denAltSpec)

/-- ITS FALSE NEIGHBOUR: 'it returns false'. Refute it at one input. -/
def denAltWrong : ChangeSpec := { name := "denAlt", fn := fun _ => fun
  | [d1, d2, d3] => { results := [.lit (.bool false)], args := [d1, d2, d3] }
  | _ => none }
def DenAltWrongFalsely : Prop := denAltRow.holds Tryz.pinned (OpenSpec.ofChange denAltWrong)

/-- 'equerrylaw12.DenRep': WHATEVER THE INPUT: true; the input reads as it did. -/
def denRepSpec : ChangeSpec := { name := "denRep", fn := fun _ => fun
  | [d1, d2, d3, d4] => { results := [.lit (.bool true)], args := [d1, d2, d3, d4] }
  | _ => none }
def denRepRow : OpenClaim := { program := "ytccjflioaajgiaagreatdoor", sum := "0d90bd5dfafa96a23733ecf3755e09281970a671c8abb499c1318d05174c6181", func := "equerry/equerrylaw12.DenRep", spec := "denRep", inPlace := ["math.Float64frombits", "math.Float64bits"], unfollowed := true, recurses := true, named := ["equerry/pred.sayings"], plainKeys := false, apart := false, laid := [("equerry/pred.sayings", laid_equerry_pred_sayings)] }
def DenRepSaid : Prop := denRepRow.holds Tryz.pinned (OpenSpec.ofChange denRepSpec)

/-- ITS FALSE NEIGHBOUR: 'it returns false'. Refute it at one input. -/
def denRepWrong : ChangeSpec := { name := "denRep", fn := fun _ => fun
  | [d1, d2, d3, d4] => { results := [.lit (.bool false)], args := [d1, d2, d3, d4] }
  | _ => none }
def DenRepWrongFalsely : Prop := denRepRow.holds Tryz.pinned (OpenSpec.ofChange denRepWrong)

/-- 'equerrylaw12.DenLess': WHATEVER THE INPUT: true; the input reads as it did. -/
def denLessSpec : ChangeSpec := { name := "denLess", fn := fun _ => fun
  | [d1, d2, d3, d4] => { results := [.lit (.bool true)], args := [d1, d2, d3, d4] }
  | _ => none }
def denLessRow : OpenClaim := { program := "ytccjflioaajgiaagreatdoor", sum := "0d90bd5dfafa96a23733ecf3755e09281970a671c8abb499c1318d05174c6181", func := "equerry/equerrylaw12.DenLess", spec := "denLess", inPlace := ["math.Float64frombits", "math.Float64bits"], unfollowed := true, recurses := true, named := ["equerry/pred.sayings"], plainKeys := false, apart := false, laid := [("equerry/pred.sayings", laid_equerry_pred_sayings)] }
def DenLessSaid : Prop := denLessRow.holds Tryz.pinned (OpenSpec.ofChange denLessSpec)

/-- ITS FALSE NEIGHBOUR: 'it returns false'. Refute it at one input. -/
def denLessWrong : ChangeSpec := { name := "denLess", fn := fun _ => fun
  | [d1, d2, d3, d4] => { results := [.lit (.bool false)], args := [d1, d2, d3, d4] }
  | _ => none }
def DenLessWrongFalsely : Prop := denLessRow.holds Tryz.pinned (OpenSpec.ofChange denLessWrong)

/- THE SECOND FORM. 'bulk': how many values and letters a reading holds, each counted each time it is reached (what is shared counts as often as it is met; a slice's spare places count too). A statement '..UptoSaid' is the law's where the arguments, and the package variables that the reading takes, are together of bulk at most 1048576: NARROWER than '..Said'. Prove '..Said' where nothing that the law and all that it calls make is longer than what came in: it says more and counts as full. Else prove '..UptoSaid'. A law counts once. -/
mutual
def uptoBulk {H : Type} : DataW H → Nat
  | .lit (.string bytes) => bytes.length + 1
  | .lit _ => 1
  | .nil => 1
  | .ptr d => uptoBulk d + 1
  | .slice elems spare => uptoBulkAll elems + uptoBulkAll spare + 1
  | .agg parts => uptoBulkAll parts + 1
  | .iface _ d => uptoBulk d + 1
  | .map entries => uptoBulkEntries entries + 1
  | .held _ => 1
def uptoBulkAll {H : Type} : List (DataW H) → Nat
  | [] => 0
  | d :: r => uptoBulk d + uptoBulkAll r
def uptoBulkEntries {H : Type} : List (Lit × DataW H) → Nat
  | [] => 0
  | x :: r => uptoBulkEntry x + uptoBulkEntries r
def uptoBulkEntry {H : Type} : Lit × DataW H → Nat
  | (.string bytes, d) => bytes.length + uptoBulk d + 1
  | (_, d) => uptoBulk d + 1
 end
def uptoSmall : (H : Type) → List (DataW H) → Bool := fun _ ds => decide (uptoBulkAll ds ≤ 1048576)
def OpenSpec.upto (s : _root_.Go.ChangeSpec) : _root_.Go.OpenSpec := { _root_.Go.OpenSpec.ofChange s with cond := some uptoSmall }

/-- 'equerrylaw12.DenMatches', WHERE WHAT IT READS IS OF BULK AT MOST 1048576: true; the input reads as it did. -/
def denMatchesUptoRow : OpenClaim := { program := "ytccjflioaajgiaagreatdoor", sum := "0d90bd5dfafa96a23733ecf3755e09281970a671c8abb499c1318d05174c6181", func := "equerry/equerrylaw12.DenMatches", spec := "denMatches", inPlace := ["math.Float64frombits", "math.Float64bits"], unfollowed := true, recurses := true, named := ["equerry/pred.sayings"], plainKeys := false, apart := false, laid := [("equerry/pred.sayings", laid_equerry_pred_sayings)], narrowed := true }
def DenMatchesUptoSaid : Prop := denMatchesUptoRow.holds Tryz.pinned (OpenSpec.upto denMatchesSpec)

/-- 'equerrylaw12.DenHappens', WHERE WHAT IT READS IS OF BULK AT MOST 1048576: true; the input reads as it did. -/
def denHappensUptoRow : OpenClaim := { program := "ytccjflioaajgiaagreatdoor", sum := "0d90bd5dfafa96a23733ecf3755e09281970a671c8abb499c1318d05174c6181", func := "equerry/equerrylaw12.DenHappens", spec := "denHappens", inPlace := ["math.Float64frombits", "math.Float64bits"], unfollowed := true, recurses := true, named := ["equerry/pred.sayings"], plainKeys := false, apart := false, laid := [("equerry/pred.sayings", laid_equerry_pred_sayings)], narrowed := true }
def DenHappensUptoSaid : Prop := denHappensUptoRow.holds Tryz.pinned (OpenSpec.upto denHappensSpec)

/-- 'equerrylaw12.DenAlt', WHERE WHAT IT READS IS OF BULK AT MOST 1048576: true; the input reads as it did. -/
def denAltUptoRow : OpenClaim := { program := "ytccjflioaajgiaagreatdoor", sum := "0d90bd5dfafa96a23733ecf3755e09281970a671c8abb499c1318d05174c6181", func := "equerry/equerrylaw12.DenAlt", spec := "denAlt", inPlace := ["math.Float64frombits", "math.Float64bits"], unfollowed := true, recurses := true, named := ["equerry/pred.sayings"], plainKeys := false, apart := false, laid := [("equerry/pred.sayings", laid_equerry_pred_sayings)], narrowed := true }
def DenAltUptoSaid : Prop := denAltUptoRow.holds Tryz.pinned (OpenSpec.upto denAltSpec)

/-- 'equerrylaw12.DenRep', WHERE WHAT IT READS IS OF BULK AT MOST 1048576: true; the input reads as it did. -/
def denRepUptoRow : OpenClaim := { program := "ytccjflioaajgiaagreatdoor", sum := "0d90bd5dfafa96a23733ecf3755e09281970a671c8abb499c1318d05174c6181", func := "equerry/equerrylaw12.DenRep", spec := "denRep", inPlace := ["math.Float64frombits", "math.Float64bits"], unfollowed := true, recurses := true, named := ["equerry/pred.sayings"], plainKeys := false, apart := false, laid := [("equerry/pred.sayings", laid_equerry_pred_sayings)], narrowed := true }
def DenRepUptoSaid : Prop := denRepUptoRow.holds Tryz.pinned (OpenSpec.upto denRepSpec)

/-- 'equerrylaw12.DenLess', WHERE WHAT IT READS IS OF BULK AT MOST 1048576: true; the input reads as it did. -/
def denLessUptoRow : OpenClaim := { program := "ytccjflioaajgiaagreatdoor", sum := "0d90bd5dfafa96a23733ecf3755e09281970a671c8abb499c1318d05174c6181", func := "equerry/equerrylaw12.DenLess", spec := "denLess", inPlace := ["math.Float64frombits", "math.Float64bits"], unfollowed := true, recurses := true, named := ["equerry/pred.sayings"], plainKeys := false, apart := false, laid := [("equerry/pred.sayings", laid_equerry_pred_sayings)], narrowed := true }
def DenLessUptoSaid : Prop := denLessUptoRow.holds Tryz.pinned (OpenSpec.upto denLessSpec)

end Rows
end Go.Proofs.YtccjflioaajgiaaGreatDoor
