import Derived.Test.YtmebcdpdpcpnmaaGreatDoorA5
import Derived.Test.YtmebcdpdpcpnmaaGreatDoorPlain3
import Derived.Deep.OwnRows
namespace Go.Proofs.YtmebcdpdpcpnmaaGreatDoor
open Go.RowKit

set_option maxHeartbeats 1000000 in
theorem placeOf_any (g n : Nat) (Z : Nat → Int) (i : Nat) (w : World) (hi : i < n) (hn : n ≤ 12) (hrow : w.rowIs g 3 n (fun j => .int .i64 (Z j))) :
    Calls Tryz.prog 92 #[.int .i64 i, .slice (some ⟨g, 0, none⟩) n n] w fun e w' => e = .returned (.int .i64 (Mk.place Z n i)) ∧ w' = w := by
  have HR : Hid (w.rowIs g 3 n (fun j => .int .i64 (Z j))) := hrow
  have ci := hrow.cell hi
  have hi' : (i : Int) < (n : Int) := by omega
  have ht1 : decide (n ≤ i) = false := by simp; omega
  have ht2 : ¬ n ≤ i := by omega
  clear hrow
  go_enter Tryz.func92, Tryz.ntmps92
  go_wp2
  go_loop [5, 20] (fun c j => ∃ k : Nat, k ≤ n ∧ j = .int .i64 k ∧ c = .int .i64 (Mk.cnt (Mk.aheadB Z i) k)) (fun _ j => n - (intOf j).toNat)
  case atStart => exact ⟨0, Nat.zero_le _, rfl, rfl⟩
  case round =>
    obtain ⟨k, hk, rfl, rfl⟩ := hrel
    have hc := Mk.cnt_le (Mk.aheadB Z i) k
    by_cases hlt : k < n
    · have ck := World.rowIs.cell HR.out hlt
      have hlt' : (k : Int) < (n : Int) := by omega
      go_wp2
      all_goals
        go_round
        case rel =>
          refine ⟨k + 1, by omega, by go_num, ?_⟩
          first
            | (refine congrArg _ (Mk.ahead_yes ?_); omega)
            | (refine congrArg _ (Mk.ahead_no ?_); omega)
        case measure => simp [intOf]; omega
    · go_wp2
      go_ret
      have : k = n := by omega
      subst this
      exact ⟨rfl, rfl⟩

end Go.Proofs.YtmebcdpdpcpnmaaGreatDoor
