import Derived.Test.YtmebcdpdpcpnmabDoorKZS
import Derived.Test.YtmebcdpdpcpnmabDoorJ33
namespace Go.Proofs.YtmebcdpdpcpnmabDoor

theorem lasts_holds : Rows.LastsCardSaid := lasts_card prog_log pside

end Go.Proofs.YtmebcdpdpcpnmabDoor
