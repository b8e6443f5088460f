import Derived.Test.YtmebcdpdpcpnmabDoorKZ11
import Derived.Test.YtmebcdpdpcpnmabDoorJ33
namespace Go.Proofs.YtmebcdpdpcpnmabDoor

theorem once_holds : Rows.OnceCardSaid := once_card pside

end Go.Proofs.YtmebcdpdpcpnmabDoor
