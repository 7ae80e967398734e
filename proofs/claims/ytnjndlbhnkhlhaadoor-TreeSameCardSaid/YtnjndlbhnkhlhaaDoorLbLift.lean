/- What comes in, told in the walks' words: slices of bytes. -/
import Derived.Test.YtnjndlbhnkhlhaaDoorRows
import Derived.Test.YtnjndlbhnkhlhaaDoorLbOwn
import Derived.ProofKit
import Derived.LaidMore
import Derived.OpenShut
import Derived.Stop.Joined
import Derived.ChangeOld
import Derived.ChangeMaps5
import Derived.Carry
namespace Go.Proofs.YtnjndlbhnkhlhaaDoor
open Go Go.ChangeShapes Go.WideShapes Go.ChangeAt Go.WideMaps Go.WideElems Go.RowKit
set_option maxRecDepth 20000

theorem own : ownKnob Tryd.prog.godebug = none := by kernel_rfl
theorem laidOut : laidOutB Tryd.prog = true := by kernel_rfl

end Go.Proofs.YtnjndlbhnkhlhaaDoor
