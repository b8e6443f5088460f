import Derived.Test.YtmebcdpdpcpnmaaGreatDoorTie
import Derived.Test.YtmebcdpdpcpnmaaGreatDoorCards
import Derived.ProofKit
import Derived.LaidMore
import Derived.Stop.Joined
namespace Go.Proofs.YtmebcdpdpcpnmaaGreatDoor
open Go.RowKit

theorem Tryz.ownD : ownKnob Tryz.prog.godebug = none := by kernel_rfl
/-- the heap that start-up leaves meets it -/
theorem doorD_met (os : Os) (args : Array Value) : laidMetH Tryz.prog Rows.listsRow.laid ((World.doorLaid Tryz.prog 400 os).forCall (fun _ _ => 0) ⟨#[], args, []⟩).memory :=
  laidMetH_of_parts3 (fuel := 8) (laidMet_of_run' 8 (by kernel_rfl) (by kernel_rfl)) (by kernel_rfl) (by kernel_rfl)

end Go.Proofs.YtmebcdpdpcpnmaaGreatDoor
