import Derived.Test.YtmebcdpdpcpnmaaGreatDoorKY6
import Derived.Test.YtmebcdpdpcpnmaaGreatDoorKCD
namespace Go.Proofs.YtmebcdpdpcpnmaaGreatDoor

theorem closes_holds : Rows.ClosesCardSaid := closes_card close_ok

end Go.Proofs.YtmebcdpdpcpnmaaGreatDoor
