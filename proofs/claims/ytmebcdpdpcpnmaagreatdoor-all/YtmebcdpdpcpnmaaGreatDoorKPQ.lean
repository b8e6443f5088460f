import Derived.Test.YtmebcdpdpcpnmaaGreatDoorKPlainP
import Derived.Test.YtmebcdpdpcpnmaaGreatDoorJ24
import Derived.Test.YtmebcdpdpcpnmaaGreatDoorJ25
namespace Go.Proofs.YtmebcdpdpcpnmaaGreatDoor
open Go.RowKit

/-- what the program's Open leaves -/
def POpenT (x : Option Mk.Mkt) (w : World) (e : Ending) (w' : World) : Prop :=
  match x with
  | none => e = .returned (.tuple #[.pointer none, .int .i64 11]) ∧ Below w.heap.size w w'
  | some M => ∃ p vb, e = .returned (.tuple #[.pointer (some ⟨p, 0, none⟩), .int .i64 0]) ∧ PM w' p vb M ∧ (∀ k, PHas p vb k → w.heap.size ≤ k) ∧ Below w.heap.size w w'
/-- WHAT IS TO PROVE OF THE PROGRAM's Do, Log, Open -/
structure ProgLog : Prop where
  dos : ∀ (p : Nat) (vb : Nat → Value) (M : Mk.Mkt) (k : Nat) (s : ByteArray) (w : World), AInv M k → k ≤ 1100000 → s.size ≤ 1048576 → PM w p vb M → Tab w →
    Calls Tryz.prog 31 #[.pointer (some ⟨p, 0, none⟩), .string s] w fun e w' => PDoT p vb (Mk.doM (Mk.allM M) M s) w e w'
  log : ∀ (p : Nat) (vb : Nat → Value) (M : Mk.Mkt) (k : Nat) (w : World), AInv M k → k ≤ 1100000 → PM w p vb M →
    Calls Tryz.prog 36 #[.pointer (some ⟨p, 0, none⟩)] w fun e w' => e = .returned (.string M.disk) ∧ Below w.heap.size w w'
  opn : ∀ (s : ByteArray) (w : World), s.size ≤ 1048576 → Tab w → Calls Tryz.prog 18 #[.string s] w fun e w' => POpenT (Mk.openM s) w e w'

end Go.Proofs.YtmebcdpdpcpnmaaGreatDoor
