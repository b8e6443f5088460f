import Derived.Test.YtmebcdpdpcpnmaaGreatDoorB2
import Derived.Test.YtmebcdpdpcpnmaaGreatDoorPlain6
import Derived.Deep.QuietTactic
import Derived.BigQuiet
namespace Go.Proofs.YtmebcdpdpcpnmaaGreatDoor
open Go.RowKit

end Go.Proofs.YtmebcdpdpcpnmaaGreatDoor
