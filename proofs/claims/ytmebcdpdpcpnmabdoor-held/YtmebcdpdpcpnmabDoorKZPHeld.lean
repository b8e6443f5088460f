import Derived.Test.YtmebcdpdpcpnmabDoorKZO
import Derived.Test.YtmebcdpdpcpnmabDoorJ33
namespace Go.Proofs.YtmebcdpdpcpnmabDoor

theorem held_holds : Rows.HeldCardSaid := held_card pside

end Go.Proofs.YtmebcdpdpcpnmabDoor
