/- Contracts, joined: MCx, PdRE. -/
import Derived.Test.YtpnllbojifnopaaGreatDoorZMC
import Derived.Deep.RegionLaw
import Derived.Test.YtpnllbojifnopaaGreatDoorZMD
namespace Go.Proofs.YtpnllbojifnopaaGreatDoor
open Go Go.RowKit Pk Rl
set_option maxRecDepth 20000
end Go.Proofs.YtpnllbojifnopaaGreatDoor
namespace Go.Proofs.YtpnllbojifnopaaGreatDoor
open Go Go.RowKit Pk Rl
set_option maxRecDepth 20000
end Go.Proofs.YtpnllbojifnopaaGreatDoor
