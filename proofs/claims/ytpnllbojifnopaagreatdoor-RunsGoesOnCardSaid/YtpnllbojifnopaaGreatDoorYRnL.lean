/- Where an engine is: Failed, Horizon. -/
import Derived.Test.YtpnllbojifnopaaGreatDoorYRnI
import Derived.BigQuiet
namespace Go.Proofs.YtpnllbojifnopaaGreatDoor
open Go Go.RowKit Go.Maps Pk Rl
set_option maxRecDepth 20000
end Go.Proofs.YtpnllbojifnopaaGreatDoor
