import Derived.Test.YthekfjmjnfmdnaaGreatDoorJ10
import Derived.Test.YthekfjmjnfmdnaaGreatDoorJ15
import Derived.Deep.QuietTactic
import Derived.BigQuiet
namespace Go.Proofs.YthekfjmjnfmdnaaGreatDoor
open Go.RowKit

end Go.Proofs.YthekfjmjnfmdnaaGreatDoor
