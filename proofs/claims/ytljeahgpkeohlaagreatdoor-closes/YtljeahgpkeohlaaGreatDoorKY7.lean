import Derived.Test.YtljeahgpkeohlaaGreatDoorKY6
import Derived.Test.YtljeahgpkeohlaaGreatDoorKCD
namespace Go.Proofs.YtljeahgpkeohlaaGreatDoor

theorem closes_holds : Rows.ClosesCardSaid := closes_card close_ok

end Go.Proofs.YtljeahgpkeohlaaGreatDoor
