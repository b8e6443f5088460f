import Derived.Test.YtljeahgpkeohlabDoorKZO
import Derived.Test.YtljeahgpkeohlabDoorJ33
namespace Go.Proofs.YtljeahgpkeohlabDoor

theorem held_holds : Rows.HeldCardSaid := held_card pside

end Go.Proofs.YtljeahgpkeohlabDoor
