/-
  No cell of these rows narrows 'for every input' (looked for: loops, veiled, ifaces, maps, wideKeys, modest, calm, conditions, laid).
  DERIVED. THE GIVEN ROWS OF THIS SEAT. 6 by the template 'for every input the law returns true; each argument reads behind the call as it read before'; 0 by the template 'total and deterministic' (their statements: YtmebcdpdpcpnmaaTotals.lean).
  GIVEN WITH THE SEED: the statements are not yours to turn. If you find one false, say at which input.
  Laid BY PROGRAM, IN A SANDBOX (cutbox-rows.mjs): the forced cells as the released guide's own fill.sh prints them over the translation 544d22d3ea037152… (all of the seat's roots in one cut). By AI agents, Wed Nov 11 2026. No macro, syntax, notation, axiom, sorry.
-/
import Derived.Test.YtmebcdpdpcpnmaaChecked
import GoSem.Claim
import GoSem.ClaimJoined
import GoSem.ClaimMapViews
import Derived.JoinedTies
import Derived.KernelRfl
namespace Go.Proofs.Ytmebcdpdpcpnmaa
/- THE CELL 'sum', in the pinned program and in every row, IS THE sha256 OF THE DUMP (.gsa) THAT YtmebcdpdpcpnmaaProg.lean LOADS. Nothing in Lean hashes anything: it is a label: what it is worth is what the hold of that sum in a sandbox is worth. -/
noncomputable def Try.pinned : Pinned := { name := "ytmebcdpdpcpnmaa", sum := "544d22d3ea037152332bd258ed2cd58d3a8a6c037b92c0b15f5f5ffa74f39d1b", checked := Try.checked }
namespace Rows
def none {H : Type} : Left H := { results := [], args := [] }

/-- 'marketlaw.Uniforms': WHATEVER THE INPUT: true; the input reads as it did. -/
def uniformsSpec : ChangeSpec := { name := "uniforms", fn := fun _ => fun
  | [d] => { results := [.lit (.bool true)], args := [d] }
  | _ => none }
def uniformsRow : OpenClaim := { program := "ytmebcdpdpcpnmaa", sum := "544d22d3ea037152332bd258ed2cd58d3a8a6c037b92c0b15f5f5ffa74f39d1b", func := "market/marketlaw.Uniforms", spec := "uniforms", apart := false }
def UniformsSaid : Prop := uniformsRow.holds Try.pinned (OpenSpec.ofChange uniformsSpec)

/-- ITS FALSE NEIGHBOUR: 'it returns false'. Refute it at one input. -/
def uniformsWrong : ChangeSpec := { name := "uniforms", fn := fun _ => fun
  | [d] => { results := [.lit (.bool false)], args := [d] }
  | _ => none }
def UniformsWrongFalsely : Prop := uniformsRow.holds Try.pinned (OpenSpec.ofChange uniformsWrong)

/-- 'marketlaw.McAfees': WHATEVER THE INPUT: true; the input reads as it did. -/
def mcAfeesSpec : ChangeSpec := { name := "mcAfees", fn := fun _ => fun
  | [d] => { results := [.lit (.bool true)], args := [d] }
  | _ => none }
def mcAfeesRow : OpenClaim := { program := "ytmebcdpdpcpnmaa", sum := "544d22d3ea037152332bd258ed2cd58d3a8a6c037b92c0b15f5f5ffa74f39d1b", func := "market/marketlaw.McAfees", spec := "mcAfees", apart := false }
def McAfeesSaid : Prop := mcAfeesRow.holds Try.pinned (OpenSpec.ofChange mcAfeesSpec)

/-- ITS FALSE NEIGHBOUR: 'it returns false'. Refute it at one input. -/
def mcAfeesWrong : ChangeSpec := { name := "mcAfees", fn := fun _ => fun
  | [d] => { results := [.lit (.bool false)], args := [d] }
  | _ => none }
def McAfeesWrongFalsely : Prop := mcAfeesRow.holds Try.pinned (OpenSpec.ofChange mcAfeesWrong)

/-- 'marketlaw.Best': WHATEVER THE INPUT: true; the input reads as it did. -/
def bestSpec : ChangeSpec := { name := "best", fn := fun _ => fun
  | [d] => { results := [.lit (.bool true)], args := [d] }
  | _ => none }
def bestRow : OpenClaim := { program := "ytmebcdpdpcpnmaa", sum := "544d22d3ea037152332bd258ed2cd58d3a8a6c037b92c0b15f5f5ffa74f39d1b", func := "market/marketlaw.Best", spec := "best", apart := false }
def BestSaid : Prop := bestRow.holds Try.pinned (OpenSpec.ofChange bestSpec)

/-- ITS FALSE NEIGHBOUR: 'it returns false'. Refute it at one input. -/
def bestWrong : ChangeSpec := { name := "best", fn := fun _ => fun
  | [d] => { results := [.lit (.bool false)], args := [d] }
  | _ => none }
def BestWrongFalsely : Prop := bestRow.holds Try.pinned (OpenSpec.ofChange bestWrong)

/-- 'marketlaw.Shares': WHATEVER THE INPUT: true; the input reads as it did. -/
def sharesSpec : ChangeSpec := { name := "shares", fn := fun _ => fun
  | [d] => { results := [.lit (.bool true)], args := [d] }
  | _ => none }
def sharesRow : OpenClaim := { program := "ytmebcdpdpcpnmaa", sum := "544d22d3ea037152332bd258ed2cd58d3a8a6c037b92c0b15f5f5ffa74f39d1b", func := "market/marketlaw.Shares", spec := "shares", apart := false }
def SharesSaid : Prop := sharesRow.holds Try.pinned (OpenSpec.ofChange sharesSpec)

/-- ITS FALSE NEIGHBOUR: 'it returns false'. Refute it at one input. -/
def sharesWrong : ChangeSpec := { name := "shares", fn := fun _ => fun
  | [d] => { results := [.lit (.bool false)], args := [d] }
  | _ => none }
def SharesWrongFalsely : Prop := sharesRow.holds Try.pinned (OpenSpec.ofChange sharesWrong)

/-- 'marketlaw.Comes': WHATEVER THE INPUT: true; the input reads as it did. -/
def comesSpec : ChangeSpec := { name := "comes", fn := fun _ => fun
  | [d1, d2, d3] => { results := [.lit (.bool true)], args := [d1, d2, d3] }
  | _ => none }
def comesRow : OpenClaim := { program := "ytmebcdpdpcpnmaa", sum := "544d22d3ea037152332bd258ed2cd58d3a8a6c037b92c0b15f5f5ffa74f39d1b", func := "market/marketlaw.Comes", spec := "comes", apart := false }
def ComesSaid : Prop := comesRow.holds Try.pinned (OpenSpec.ofChange comesSpec)

/-- ITS FALSE NEIGHBOUR: 'it returns false'. Refute it at one input. -/
def comesWrong : ChangeSpec := { name := "comes", fn := fun _ => fun
  | [d1, d2, d3] => { results := [.lit (.bool false)], args := [d1, d2, d3] }
  | _ => none }
def ComesWrongFalsely : Prop := comesRow.holds Try.pinned (OpenSpec.ofChange comesWrong)

/-- 'marketlaw.Truthful': WHATEVER THE INPUT: true; the input reads as it did. -/
def truthfulSpec : ChangeSpec := { name := "truthful", fn := fun _ => fun
  | [d1, d2, d3, d4] => { results := [.lit (.bool true)], args := [d1, d2, d3, d4] }
  | _ => none }
def truthfulRow : OpenClaim := { program := "ytmebcdpdpcpnmaa", sum := "544d22d3ea037152332bd258ed2cd58d3a8a6c037b92c0b15f5f5ffa74f39d1b", func := "market/marketlaw.Truthful", spec := "truthful", apart := false }
def TruthfulSaid : Prop := truthfulRow.holds Try.pinned (OpenSpec.ofChange truthfulSpec)

/-- ITS FALSE NEIGHBOUR: 'it returns false'. Refute it at one input. -/
def truthfulWrong : ChangeSpec := { name := "truthful", fn := fun _ => fun
  | [d1, d2, d3, d4] => { results := [.lit (.bool false)], args := [d1, d2, d3, d4] }
  | _ => none }
def TruthfulWrongFalsely : Prop := truthfulRow.holds Try.pinned (OpenSpec.ofChange truthfulWrong)

/- THE SECOND FORM. 'bulk': how many values and letters a reading holds, each counted each time it is reached (what is shared counts as often as it is met; a slice's spare places count too). A statement '..UptoSaid' is the law's where the arguments, and the package variables that the reading takes, are together of bulk at most 1048576: NARROWER than '..Said'. Prove '..Said' where nothing that the law and all that it calls make is longer than what came in: it says more and counts as full. Else prove '..UptoSaid'. A law counts once. -/
mutual
def uptoBulk {H : Type} : DataW H → Nat
  | .lit (.string bytes) => bytes.length + 1
  | .lit _ => 1
  | .nil => 1
  | .ptr d => uptoBulk d + 1
  | .slice elems spare => uptoBulkAll elems + uptoBulkAll spare + 1
  | .agg parts => uptoBulkAll parts + 1
  | .iface _ d => uptoBulk d + 1
  | .map entries => uptoBulkEntries entries + 1
  | .held _ => 1
def uptoBulkAll {H : Type} : List (DataW H) → Nat
  | [] => 0
  | d :: r => uptoBulk d + uptoBulkAll r
def uptoBulkEntries {H : Type} : List (Lit × DataW H) → Nat
  | [] => 0
  | x :: r => uptoBulkEntry x + uptoBulkEntries r
def uptoBulkEntry {H : Type} : Lit × DataW H → Nat
  | (.string bytes, d) => bytes.length + uptoBulk d + 1
  | (_, d) => uptoBulk d + 1
 end
def uptoSmall : (H : Type) → List (DataW H) → Bool := fun _ ds => decide (uptoBulkAll ds ≤ 1048576)
def OpenSpec.upto (s : _root_.Go.ChangeSpec) : _root_.Go.OpenSpec := { _root_.Go.OpenSpec.ofChange s with cond := some uptoSmall }

/-- 'marketlaw.Uniforms', WHERE WHAT IT READS IS OF BULK AT MOST 1048576: true; the input reads as it did. -/
def uniformsUptoRow : OpenClaim := { program := "ytmebcdpdpcpnmaa", sum := "544d22d3ea037152332bd258ed2cd58d3a8a6c037b92c0b15f5f5ffa74f39d1b", func := "market/marketlaw.Uniforms", spec := "uniforms", apart := false, narrowed := true }
def UniformsUptoSaid : Prop := uniformsUptoRow.holds Try.pinned (OpenSpec.upto uniformsSpec)

/-- 'marketlaw.McAfees', WHERE WHAT IT READS IS OF BULK AT MOST 1048576: true; the input reads as it did. -/
def mcAfeesUptoRow : OpenClaim := { program := "ytmebcdpdpcpnmaa", sum := "544d22d3ea037152332bd258ed2cd58d3a8a6c037b92c0b15f5f5ffa74f39d1b", func := "market/marketlaw.McAfees", spec := "mcAfees", apart := false, narrowed := true }
def McAfeesUptoSaid : Prop := mcAfeesUptoRow.holds Try.pinned (OpenSpec.upto mcAfeesSpec)

/-- 'marketlaw.Best', WHERE WHAT IT READS IS OF BULK AT MOST 1048576: true; the input reads as it did. -/
def bestUptoRow : OpenClaim := { program := "ytmebcdpdpcpnmaa", sum := "544d22d3ea037152332bd258ed2cd58d3a8a6c037b92c0b15f5f5ffa74f39d1b", func := "market/marketlaw.Best", spec := "best", apart := false, narrowed := true }
def BestUptoSaid : Prop := bestUptoRow.holds Try.pinned (OpenSpec.upto bestSpec)

/-- 'marketlaw.Shares', WHERE WHAT IT READS IS OF BULK AT MOST 1048576: true; the input reads as it did. -/
def sharesUptoRow : OpenClaim := { program := "ytmebcdpdpcpnmaa", sum := "544d22d3ea037152332bd258ed2cd58d3a8a6c037b92c0b15f5f5ffa74f39d1b", func := "market/marketlaw.Shares", spec := "shares", apart := false, narrowed := true }
def SharesUptoSaid : Prop := sharesUptoRow.holds Try.pinned (OpenSpec.upto sharesSpec)

/-- 'marketlaw.Comes', WHERE WHAT IT READS IS OF BULK AT MOST 1048576: true; the input reads as it did. -/
def comesUptoRow : OpenClaim := { program := "ytmebcdpdpcpnmaa", sum := "544d22d3ea037152332bd258ed2cd58d3a8a6c037b92c0b15f5f5ffa74f39d1b", func := "market/marketlaw.Comes", spec := "comes", apart := false, narrowed := true }
def ComesUptoSaid : Prop := comesUptoRow.holds Try.pinned (OpenSpec.upto comesSpec)

/-- 'marketlaw.Truthful', WHERE WHAT IT READS IS OF BULK AT MOST 1048576: true; the input reads as it did. -/
def truthfulUptoRow : OpenClaim := { program := "ytmebcdpdpcpnmaa", sum := "544d22d3ea037152332bd258ed2cd58d3a8a6c037b92c0b15f5f5ffa74f39d1b", func := "market/marketlaw.Truthful", spec := "truthful", apart := false, narrowed := true }
def TruthfulUptoSaid : Prop := truthfulUptoRow.holds Try.pinned (OpenSpec.upto truthfulSpec)

end Rows
end Go.Proofs.Ytmebcdpdpcpnmaa
