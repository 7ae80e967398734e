/- Two engines of one pattern, the one's numbers and times shifted. No program. -/
import Derived.Test.YtpnllbojifnopaaGreatDoorYRnN
namespace Go.Proofs.YtpnllbojifnopaaGreatDoor
open Go Go.RowKit Go.Maps Pk Rl
set_option maxRecDepth 20000
section
variable {by_ later : Nat} {e e' : En} {R R' : List Ru} {l l' : Lg}
end
end Go.Proofs.YtpnllbojifnopaaGreatDoor
