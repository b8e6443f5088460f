/-
  DERIVED. GIVEN WITH THE SEED: THE CARDS: each row of YtmebcdpdpcpnmabDoorRows.lean that lists a variable, with what it lists TIED to the program's text (the seventh form; the later family's looks); each row that meets fmt, with fmt's text TOLD by the authors' own Lean function (tested against real Go, not proved from fmt's source: count such statements apart). THE CARD IS WHAT COUNTS. Prove the row's statement (the work); the ties are given (YtmebcdpdpcpnmabDoorTie.lean); close each card by the builder's one call (the guide's Derived/Test/ToyasCard.lean, 'card_holds'). Laid BY PROGRAM, IN A SANDBOX (cutbox-door.mjs). By AI agents, Wed Nov 11 2026. No macro, syntax, notation, axiom, sorry.
-/
import Derived.Test.YtmebcdpdpcpnmabDoorRows
import GoSem.ClaimSeven
namespace Go.Proofs.YtmebcdpdpcpnmabDoor
namespace Rows

/-- THE TIED CARD OF 'marketlaw.Kept'. -/
def keptCard : Claim7 := { stood := { row := keptRow, standIns := [], harness := (true, "45c4e93a88fb0417d6469e79a917b74e16d795d461e619760d13bfd5c557e1e7"), looks := false }, kinds := [], alts := [], laidByText := true, laidKinds := [.data, .data, .data], laidTests := true, laidLooks := .later }
def KeptCardSaid : Prop := Claim7.holds Tryd.pinned (.plain (OpenSpec.ofChange keptSpec)) keptCard

/-- THE TIED CARD OF 'marketlaw.Held'. -/
def heldCard : Claim7 := { stood := { row := heldRow, standIns := [], harness := (true, "45c4e93a88fb0417d6469e79a917b74e16d795d461e619760d13bfd5c557e1e7"), looks := false }, kinds := [], alts := [], laidByText := true, laidKinds := [.data, .data, .data], laidTests := true, laidLooks := .later }
def HeldCardSaid : Prop := Claim7.holds Tryd.pinned (.plain (OpenSpec.ofChange heldSpec)) heldCard

/-- THE TIED CARD OF 'marketlaw.Once'. -/
def onceCard : Claim7 := { stood := { row := onceRow, standIns := [], harness := (true, "45c4e93a88fb0417d6469e79a917b74e16d795d461e619760d13bfd5c557e1e7"), looks := false }, kinds := [], alts := [], laidByText := true, laidKinds := [.data, .data, .data], laidTests := true, laidLooks := .later }
def OnceCardSaid : Prop := Claim7.holds Tryd.pinned (.plain (OpenSpec.ofChange onceSpec)) onceCard

/-- THE TIED CARD OF 'marketlaw.Refused'. -/
def refusedCard : Claim7 := { stood := { row := refusedRow, standIns := [], harness := (true, "45c4e93a88fb0417d6469e79a917b74e16d795d461e619760d13bfd5c557e1e7"), looks := false }, kinds := [], alts := [], laidByText := true, laidKinds := [.data, .data, .data], laidTests := true, laidLooks := .later }
def RefusedCardSaid : Prop := Claim7.holds Tryd.pinned (.plain (OpenSpec.ofChange refusedSpec)) refusedCard

/-- THE TIED CARD OF 'marketlaw.Twins'. -/
def twinsCard : Claim7 := { stood := { row := twinsRow, standIns := [], harness := (true, "45c4e93a88fb0417d6469e79a917b74e16d795d461e619760d13bfd5c557e1e7"), looks := false }, kinds := [], alts := [], laidByText := true, laidKinds := [.data, .data, .data], laidTests := true, laidLooks := .later }
def TwinsCardSaid : Prop := Claim7.holds Tryd.pinned (.plain (OpenSpec.ofChange twinsSpec)) twinsCard

/-- THE TIED CARD OF 'marketlaw.Lasts'. -/
def lastsCard : Claim7 := { stood := { row := lastsRow, standIns := [], harness := (true, "45c4e93a88fb0417d6469e79a917b74e16d795d461e619760d13bfd5c557e1e7"), looks := false }, kinds := [], alts := [], laidByText := true, laidKinds := [.data, .data, .data], laidTests := true, laidLooks := .later }
def LastsCardSaid : Prop := Claim7.holds Tryd.pinned (.plain (OpenSpec.ofChange lastsSpec)) lastsCard

/-- THE SECOND FORM's CARD OF 'marketlaw.Kept'. -/
def keptUptoCard : Claim7 := { stood := { row := keptUptoRow, standIns := [], harness := (true, "45c4e93a88fb0417d6469e79a917b74e16d795d461e619760d13bfd5c557e1e7"), looks := false }, kinds := [], alts := [], laidByText := true, laidKinds := [.data, .data, .data], laidTests := true, laidLooks := .later }
def KeptUptoCardSaid : Prop := Claim7.holds Tryd.pinned (.plain (OpenSpec.upto keptSpec)) keptUptoCard

/-- THE SECOND FORM's CARD OF 'marketlaw.Held'. -/
def heldUptoCard : Claim7 := { stood := { row := heldUptoRow, standIns := [], harness := (true, "45c4e93a88fb0417d6469e79a917b74e16d795d461e619760d13bfd5c557e1e7"), looks := false }, kinds := [], alts := [], laidByText := true, laidKinds := [.data, .data, .data], laidTests := true, laidLooks := .later }
def HeldUptoCardSaid : Prop := Claim7.holds Tryd.pinned (.plain (OpenSpec.upto heldSpec)) heldUptoCard

/-- THE SECOND FORM's CARD OF 'marketlaw.Once'. -/
def onceUptoCard : Claim7 := { stood := { row := onceUptoRow, standIns := [], harness := (true, "45c4e93a88fb0417d6469e79a917b74e16d795d461e619760d13bfd5c557e1e7"), looks := false }, kinds := [], alts := [], laidByText := true, laidKinds := [.data, .data, .data], laidTests := true, laidLooks := .later }
def OnceUptoCardSaid : Prop := Claim7.holds Tryd.pinned (.plain (OpenSpec.upto onceSpec)) onceUptoCard

/-- THE SECOND FORM's CARD OF 'marketlaw.Refused'. -/
def refusedUptoCard : Claim7 := { stood := { row := refusedUptoRow, standIns := [], harness := (true, "45c4e93a88fb0417d6469e79a917b74e16d795d461e619760d13bfd5c557e1e7"), looks := false }, kinds := [], alts := [], laidByText := true, laidKinds := [.data, .data, .data], laidTests := true, laidLooks := .later }
def RefusedUptoCardSaid : Prop := Claim7.holds Tryd.pinned (.plain (OpenSpec.upto refusedSpec)) refusedUptoCard

/-- THE SECOND FORM's CARD OF 'marketlaw.Twins'. -/
def twinsUptoCard : Claim7 := { stood := { row := twinsUptoRow, standIns := [], harness := (true, "45c4e93a88fb0417d6469e79a917b74e16d795d461e619760d13bfd5c557e1e7"), looks := false }, kinds := [], alts := [], laidByText := true, laidKinds := [.data, .data, .data], laidTests := true, laidLooks := .later }
def TwinsUptoCardSaid : Prop := Claim7.holds Tryd.pinned (.plain (OpenSpec.upto twinsSpec)) twinsUptoCard

/-- THE SECOND FORM's CARD OF 'marketlaw.Lasts'. -/
def lastsUptoCard : Claim7 := { stood := { row := lastsUptoRow, standIns := [], harness := (true, "45c4e93a88fb0417d6469e79a917b74e16d795d461e619760d13bfd5c557e1e7"), looks := false }, kinds := [], alts := [], laidByText := true, laidKinds := [.data, .data, .data], laidTests := true, laidLooks := .later }
def LastsUptoCardSaid : Prop := Claim7.holds Tryd.pinned (.plain (OpenSpec.upto lastsSpec)) lastsUptoCard
end Rows
end Go.Proofs.YtmebcdpdpcpnmabDoor
