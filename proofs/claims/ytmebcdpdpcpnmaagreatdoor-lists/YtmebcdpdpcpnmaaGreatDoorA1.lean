import Derived.Test.YtmebcdpdpcpnmaaGreatDoorRows
import Derived.Test.YtmebcdpdpcpnmaaGreatDoorPlain
import Derived.WalkKit
import Derived.WalkSpells
import Derived.WalkLawsBesides
namespace Go.Proofs.YtmebcdpdpcpnmaaGreatDoor
open Go.RowKit

/-- an order, as a value -/
abbrev ordV (o : Mk.Ord) : Value := .agg #[.bool o.sell, .int .i64 o.price, .int .i64 o.qty]

set_option maxHeartbeats 400000 in
theorem mwilling_any (s : Bool) (p q c : Int) (w : World) :
    Calls Tryz.prog 91 #[.agg #[.bool s, .int .i64 p, .int .i64 q], .int .i64 c] w fun e w' =>
      e = .returned (.bool (Mk.willB s p c)) ∧ w' = w.alloc (.cells #[.bool s, .int .i64 p, .int .i64 q] 123) := by
  cases s
  all_goals
    go_enter Tryz.func91, Tryz.ntmps91
    go_wp2
    go_ret
    exact ⟨by simp [Mk.willB], rfl⟩

set_option maxHeartbeats 400000 in
theorem traded_any (p d s : Int) (w : World) :
    Calls Tryz.prog 59 #[.agg #[.int .i64 p, .int .i64 d, .int .i64 s]] w fun e w' =>
      e = .returned (.int .i64 (Mk.less d s)) ∧ w' = w.alloc (.cells #[.int .i64 p, .int .i64 d, .int .i64 s] 126) := by
  by_cases h : d < s
  all_goals
    go_enter Tryz.func59, Tryz.ntmps59
    go_wp2
    go_ret
    exact ⟨by simp [Mk.less]; omega, rfl⟩

set_option maxHeartbeats 400000 in
theorem apart_any (p d s : Int) (w : World) (h1 : 0 ≤ d) (h2 : d ≤ 1000) (h3 : 0 ≤ s) (h4 : s ≤ 1000) :
    Calls Tryz.prog 112 #[.agg #[.int .i64 p, .int .i64 d, .int .i64 s]] w fun e w' =>
      e = .returned (.int .i64 (Mk.apart d s)) ∧ w' = w.alloc (.cells #[.int .i64 p, .int .i64 d, .int .i64 s] 126) := by
  by_cases h : d < s
  all_goals
    go_enter Tryz.func112, Tryz.ntmps112
    go_wp2
    go_ret
    exact ⟨by simp [Mk.apart]; omega, rfl⟩

set_option maxHeartbeats 400000 in
theorem sideTotal_any (p d s : Int) (b : Bool) (pr q : Int) (w : World) :
    Calls Tryz.prog 90 #[.agg #[.int .i64 p, .int .i64 d, .int .i64 s], .agg #[.bool b, .int .i64 pr, .int .i64 q]] w fun e w' =>
      e = .returned (.int .i64 (if b then s else d)) ∧ w' = (w.alloc (.cells #[.int .i64 p, .int .i64 d, .int .i64 s] 126)).alloc (.cells #[.bool b, .int .i64 pr, .int .i64 q] 123) := by
  cases b
  all_goals
    go_enter Tryz.func90, Tryz.ntmps90
    go_wp2
    go_ret
    exact ⟨by simp, rfl⟩

end Go.Proofs.YtmebcdpdpcpnmaaGreatDoor
