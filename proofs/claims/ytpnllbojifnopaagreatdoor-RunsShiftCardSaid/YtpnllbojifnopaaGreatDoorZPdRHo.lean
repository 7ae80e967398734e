/- Whether a question holds of an event: the document's. -/
import Derived.Test.YtpnllbojifnopaaGreatDoorZMJ
namespace Go.Proofs.YtpnllbojifnopaaGreatDoor
open Go Go.RowKit Pk Rl
set_option maxRecDepth 20000
end Go.Proofs.YtpnllbojifnopaaGreatDoor
