import Derived.Test.YtmebcdpdpcpnmabDoorKZN
import Derived.Test.YtmebcdpdpcpnmabDoorJ33
namespace Go.Proofs.YtmebcdpdpcpnmabDoor

theorem kept_holds : Rows.KeptCardSaid := kept_card pside

end Go.Proofs.YtmebcdpdpcpnmabDoor
