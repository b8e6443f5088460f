import Derived.Test.YtljeahgpkeohlabDoorKZ11
import Derived.Test.YtljeahgpkeohlabDoorJ33
namespace Go.Proofs.YtljeahgpkeohlabDoor

theorem once_holds : Rows.OnceCardSaid := once_card pside

end Go.Proofs.YtljeahgpkeohlabDoor
