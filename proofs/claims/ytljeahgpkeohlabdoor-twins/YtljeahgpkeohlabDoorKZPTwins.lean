import Derived.Test.YtljeahgpkeohlabDoorKZ10
import Derived.Test.YtljeahgpkeohlabDoorJ33
namespace Go.Proofs.YtljeahgpkeohlabDoor

theorem twins_holds : Rows.TwinsCardSaid := twins_card pside

end Go.Proofs.YtljeahgpkeohlabDoor
