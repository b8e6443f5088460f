import Derived.Test.YtmebcdpdpcpnmabDoorKZ10
import Derived.Test.YtmebcdpdpcpnmabDoorJ33
namespace Go.Proofs.YtmebcdpdpcpnmabDoor

theorem twins_holds : Rows.TwinsCardSaid := twins_card pside

end Go.Proofs.YtmebcdpdpcpnmabDoor
