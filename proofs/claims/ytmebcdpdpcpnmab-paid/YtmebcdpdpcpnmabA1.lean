import Derived.Test.YtmebcdpdpcpnmabRows
import Derived.Test.YtmebcdpdpcpnmabPlain
import Derived.WalkKit
import Derived.WalkSpells
import Derived.WalkLawsBesides
namespace Go.Proofs.Ytmebcdpdpcpnmab
open Go.RowKit

/-- an order, as a value -/
abbrev ordV (o : Mk.Ord) : Value := .agg #[.bool o.sell, .int .i64 o.price, .int .i64 o.qty]

set_option maxHeartbeats 400000 in
theorem lwilling_any (s : Bool) (p q c : Int) (w : World) :
    Calls Try.prog 14 #[.agg #[.bool s, .int .i64 p, .int .i64 q], .int .i64 c] w fun e w' =>
      e = .returned (.bool (Mk.willB s p c)) ∧ w' = w.alloc (.cells #[.bool s, .int .i64 p, .int .i64 q] 29) := by
  obtain ⟨h1, h2⟩ | ⟨h1, h2⟩ | ⟨h1, h2⟩ : (p ≤ c ∧ c ≤ p) ∨ (p ≤ c ∧ ¬ c ≤ p) ∨ (¬ p ≤ c ∧ c ≤ p) := by omega
  all_goals cases s
  all_goals
    go_enter Try.func14, Try.ntmps14
    go_wp2
    go_ret
    exact ⟨by simp [Mk.willB, h1, h2], rfl⟩

end Go.Proofs.Ytmebcdpdpcpnmab
