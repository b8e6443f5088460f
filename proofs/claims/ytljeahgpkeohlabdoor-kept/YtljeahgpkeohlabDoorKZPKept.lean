import Derived.Test.YtljeahgpkeohlabDoorKZN
import Derived.Test.YtljeahgpkeohlabDoorJ33
namespace Go.Proofs.YtljeahgpkeohlabDoor

theorem kept_holds : Rows.KeptCardSaid := kept_card pside

end Go.Proofs.YtljeahgpkeohlabDoor
