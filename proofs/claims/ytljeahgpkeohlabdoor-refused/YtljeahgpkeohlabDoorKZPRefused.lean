import Derived.Test.YtljeahgpkeohlabDoorKZ9
import Derived.Test.YtljeahgpkeohlabDoorJ33
namespace Go.Proofs.YtljeahgpkeohlabDoor

theorem refused_holds : Rows.RefusedCardSaid := refused_card pside

end Go.Proofs.YtljeahgpkeohlabDoor
