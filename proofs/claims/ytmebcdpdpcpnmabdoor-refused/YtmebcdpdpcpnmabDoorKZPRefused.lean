import Derived.Test.YtmebcdpdpcpnmabDoorKZ9
import Derived.Test.YtmebcdpdpcpnmabDoorJ33
namespace Go.Proofs.YtmebcdpdpcpnmabDoor

theorem refused_holds : Rows.RefusedCardSaid := refused_card pside

end Go.Proofs.YtmebcdpdpcpnmabDoor
