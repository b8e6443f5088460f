/-
  DERIVED. GIVEN WITH THE SEED: THE CARDS: each row of YtmebcdpdpcpnmaaGreatDoorRows.lean that lists a variable, with what it lists TIED to the program's text (the seventh form; the later family's looks); each row that meets fmt, with fmt's text TOLD by the authors' own Lean function (tested against real Go, not proved from fmt's source: count such statements apart). THE CARD IS WHAT COUNTS. Prove the row's statement (the work); the ties are given (YtmebcdpdpcpnmaaGreatDoorTie.lean); close each card by the builder's one call (the guide's Derived/Test/ToyasCard.lean, 'card_holds'). Laid BY PROGRAM, IN A SANDBOX (cutbox-door.mjs). By AI agents, Wed Nov 11 2026. No macro, syntax, notation, axiom, sorry.
-/
import Derived.Test.YtmebcdpdpcpnmaaGreatDoorRows
import GoSem.ClaimSeven
namespace Go.Proofs.YtmebcdpdpcpnmaaGreatDoor
namespace Rows

/-- THE TIED CARD OF 'marketlaw.Lists'. -/
def listsCard : Claim7 := { stood := { row := listsRow, standIns := [], harness := (true, "cb0aa105815ecb07d34ffd2b9d2a9b57c374494775dfd712ce90b69bd44241d4"), looks := false }, kinds := [], alts := [], laidByText := true, laidKinds := [.data, .data, .data], laidTests := true, laidLooks := .later }
def ListsCardSaid : Prop := Claim7.holds Tryz.pinned (.plain (OpenSpec.ofChange listsSpec)) listsCard

/-- THE TIED CARD OF 'marketlaw.Accounts'. -/
def accountsCard : Claim7 := { stood := { row := accountsRow, standIns := [], harness := (true, "cb0aa105815ecb07d34ffd2b9d2a9b57c374494775dfd712ce90b69bd44241d4"), looks := false }, kinds := [], alts := [], laidByText := true, laidKinds := [.data, .data, .data], laidTests := true, laidLooks := .later }
def AccountsCardSaid : Prop := Claim7.holds Tryz.pinned (.plain (OpenSpec.ofChange accountsSpec)) accountsCard

/-- THE TIED CARD OF 'marketlaw.Books'. -/
def booksCard : Claim7 := { stood := { row := booksRow, standIns := [], harness := (true, "cb0aa105815ecb07d34ffd2b9d2a9b57c374494775dfd712ce90b69bd44241d4"), looks := false }, kinds := [], alts := [], laidByText := true, laidKinds := [.data, .data, .data], laidTests := true, laidLooks := .later }
def BooksCardSaid : Prop := Claim7.holds Tryz.pinned (.plain (OpenSpec.ofChange booksSpec)) booksCard

/-- THE TIED CARD OF 'marketlaw.Closes'. -/
def closesCard : Claim7 := { stood := { row := closesRow, standIns := [], harness := (true, "cb0aa105815ecb07d34ffd2b9d2a9b57c374494775dfd712ce90b69bd44241d4"), looks := false }, kinds := [], alts := [], laidByText := true, laidKinds := [.data, .data, .data], laidTests := true, laidLooks := .later }
def ClosesCardSaid : Prop := Claim7.holds Tryz.pinned (.plain (OpenSpec.ofChange closesSpec)) closesCard

/-- THE TIED CARD OF 'marketlaw.Logs'. -/
def logsCard : Claim7 := { stood := { row := logsRow, standIns := [], harness := (true, "cb0aa105815ecb07d34ffd2b9d2a9b57c374494775dfd712ce90b69bd44241d4"), looks := false }, kinds := [], alts := [], laidByText := true, laidKinds := [.data, .data, .data], laidTests := true, laidLooks := .later }
def LogsCardSaid : Prop := Claim7.holds Tryz.pinned (.plain (OpenSpec.ofChange logsSpec)) logsCard

/-- THE TIED CARD OF 'marketlaw.All'. -/
def allCard : Claim7 := { stood := { row := allRow, standIns := [], harness := (true, "cb0aa105815ecb07d34ffd2b9d2a9b57c374494775dfd712ce90b69bd44241d4"), looks := false }, kinds := [], alts := [], laidByText := true, laidKinds := [.data, .data, .data], laidTests := true, laidLooks := .later }
def AllCardSaid : Prop := Claim7.holds Tryz.pinned (.plain (OpenSpec.ofChange allSpec)) allCard

/-- THE SECOND FORM's CARD OF 'marketlaw.Lists'. -/
def listsUptoCard : Claim7 := { stood := { row := listsUptoRow, standIns := [], harness := (true, "cb0aa105815ecb07d34ffd2b9d2a9b57c374494775dfd712ce90b69bd44241d4"), looks := false }, kinds := [], alts := [], laidByText := true, laidKinds := [.data, .data, .data], laidTests := true, laidLooks := .later }
def ListsUptoCardSaid : Prop := Claim7.holds Tryz.pinned (.plain (OpenSpec.upto listsSpec)) listsUptoCard

/-- THE SECOND FORM's CARD OF 'marketlaw.Accounts'. -/
def accountsUptoCard : Claim7 := { stood := { row := accountsUptoRow, standIns := [], harness := (true, "cb0aa105815ecb07d34ffd2b9d2a9b57c374494775dfd712ce90b69bd44241d4"), looks := false }, kinds := [], alts := [], laidByText := true, laidKinds := [.data, .data, .data], laidTests := true, laidLooks := .later }
def AccountsUptoCardSaid : Prop := Claim7.holds Tryz.pinned (.plain (OpenSpec.upto accountsSpec)) accountsUptoCard

/-- THE SECOND FORM's CARD OF 'marketlaw.Books'. -/
def booksUptoCard : Claim7 := { stood := { row := booksUptoRow, standIns := [], harness := (true, "cb0aa105815ecb07d34ffd2b9d2a9b57c374494775dfd712ce90b69bd44241d4"), looks := false }, kinds := [], alts := [], laidByText := true, laidKinds := [.data, .data, .data], laidTests := true, laidLooks := .later }
def BooksUptoCardSaid : Prop := Claim7.holds Tryz.pinned (.plain (OpenSpec.upto booksSpec)) booksUptoCard

/-- THE SECOND FORM's CARD OF 'marketlaw.Closes'. -/
def closesUptoCard : Claim7 := { stood := { row := closesUptoRow, standIns := [], harness := (true, "cb0aa105815ecb07d34ffd2b9d2a9b57c374494775dfd712ce90b69bd44241d4"), looks := false }, kinds := [], alts := [], laidByText := true, laidKinds := [.data, .data, .data], laidTests := true, laidLooks := .later }
def ClosesUptoCardSaid : Prop := Claim7.holds Tryz.pinned (.plain (OpenSpec.upto closesSpec)) closesUptoCard

/-- THE SECOND FORM's CARD OF 'marketlaw.Logs'. -/
def logsUptoCard : Claim7 := { stood := { row := logsUptoRow, standIns := [], harness := (true, "cb0aa105815ecb07d34ffd2b9d2a9b57c374494775dfd712ce90b69bd44241d4"), looks := false }, kinds := [], alts := [], laidByText := true, laidKinds := [.data, .data, .data], laidTests := true, laidLooks := .later }
def LogsUptoCardSaid : Prop := Claim7.holds Tryz.pinned (.plain (OpenSpec.upto logsSpec)) logsUptoCard

/-- THE SECOND FORM's CARD OF 'marketlaw.All'. -/
def allUptoCard : Claim7 := { stood := { row := allUptoRow, standIns := [], harness := (true, "cb0aa105815ecb07d34ffd2b9d2a9b57c374494775dfd712ce90b69bd44241d4"), looks := false }, kinds := [], alts := [], laidByText := true, laidKinds := [.data, .data, .data], laidTests := true, laidLooks := .later }
def AllUptoCardSaid : Prop := Claim7.holds Tryz.pinned (.plain (OpenSpec.upto allSpec)) allUptoCard
end Rows
end Go.Proofs.YtmebcdpdpcpnmaaGreatDoor
