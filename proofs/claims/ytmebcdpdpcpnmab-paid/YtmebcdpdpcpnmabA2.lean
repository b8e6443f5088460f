import Derived.Test.YtmebcdpdpcpnmabA1
namespace Go.Proofs.Ytmebcdpdpcpnmab
open Go.RowKit

/-- the orders l lie in memory behind the slice address a -/
def Rd (w : World) (a : Option Addr) (l : List Mk.Ord) : Prop :=
  l = [] ∨ ∃ b off : Nat, a = some ⟨b, off, none⟩ ∧ ∀ (i : Nat) (h : i < l.length), w.cell? ⟨b, off + i * 3, none⟩ = some (.bool l[i].sell) ∧ w.cell? ⟨b, off + i * 3 + 1, none⟩ = some (.int .i64 l[i].price) ∧ w.cell? ⟨b, off + i * 3 + 1 + 1, none⟩ = some (.int .i64 l[i].qty)

theorem ret_bool {a b : Bool} (h : a = b) : Ending.returned (.bool a) = .returned (.bool b) := by rw [h]
theorem ret_int {k : IntKind} {a b : Int} (h : a = b) : Ending.returned (.int k a) = .returned (.int k b) := by rw [h]

set_option maxHeartbeats 1000000 in
theorem valid_some (b off cap : Nat) (l : List Mk.Ord) (most : Int) (w : World) (h12 : l.length ≤ 12) (hR : ∀ (i : Nat) (h : i < l.length), w.cell? ⟨b, off + i * 3, none⟩ = some (.bool l[i].sell) ∧ w.cell? ⟨b, off + i * 3 + 1, none⟩ = some (.int .i64 l[i].price) ∧ w.cell? ⟨b, off + i * 3 + 1 + 1, none⟩ = some (.int .i64 l[i].qty)) :
    Calls Try.prog 4 #[.slice (some ⟨b, off, none⟩) l.length cap, .int .i64 most] w fun e w' => e = .returned (.bool (Mk.validB most l)) ∧ w' = w := by
  go_enter Try.func4, Try.ntmps4
  go_wp2
  go_loop [5] (fun i => ∃ k : Nat, k ≤ l.length ∧ i = .int .i64 k ∧ (l.take k).all (Mk.okB most) = true) (fun i => l.length - (intOf i).toNat)
  case atStart => exact ⟨0, Nat.zero_le _, rfl, by simp⟩
  case round =>
    obtain ⟨k, hk, rfl, hall⟩ := hrel
    have Hall := (show Hid _ from hall)
    clear hall
    by_cases hlt : k < l.length
    · obtain ⟨c0, c1, c2⟩ := hR k hlt
      go_wp2
      all_goals first
        | (go_ret; exact ⟨ret_bool (Mk.valid_no hlt (by simp only [Mk.okB, Bool.and_eq_false_iff, decide_eq_false_iff_not]; omega)).symm, rfl⟩)
        | (go_round
           case rel => exact ⟨k + 1, by omega, by go_num, by rw [Mk.all_take_succ _ _ _ hlt, Hall.out, Bool.true_and]; simp only [Mk.okB, Bool.and_eq_true, decide_eq_true_eq]; omega⟩
           case measure => simp [intOf]; omega)
    · go_wp2
      go_ret
      have : k = l.length := by omega
      subst this
      exact ⟨ret_bool (Mk.valid_yes h12 Hall.out).symm, rfl⟩

set_option maxHeartbeats 1000000 in
theorem valid_nil (a : Option Addr) (cap : Nat) (most : Int) (w : World) :
    Calls Try.prog 4 #[.slice a 0 cap, .int .i64 most] w fun e w' => e = .returned (.bool true) ∧ w' = w := by
  go_enter Try.func4, Try.ntmps4
  go_wp2
  go_loop [5] (fun i => i = .int .i64 0) (fun i => 0)
  case atStart => rfl
  case round =>
    subst hrel
    go_wp2
    go_ret
    exact ⟨rfl, rfl⟩

set_option maxHeartbeats 1000000 in
theorem valid_long (a : Option Addr) (len cap : Nat) (most : Int) (w : World) (h : ¬ len ≤ 12) :
    Calls Try.prog 4 #[.slice a len cap, .int .i64 most] w fun e w' => e = .returned (.bool false) ∧ w' = w := by
  have h' : (12 : Int) < (len : Int) := by omega
  go_enter Try.func4, Try.ntmps4
  go_wp2
  go_ret
  exact ⟨rfl, rfl⟩

theorem valid_any (a : Option Addr) (cap : Nat) (l : List Mk.Ord) (most : Int) (w : World) (hR : Rd w a l) :
    Calls Try.prog 4 #[.slice a l.length cap, .int .i64 most] w fun e w' => e = .returned (.bool (Mk.validB most l)) ∧ w' = w := by
  by_cases h12 : l.length ≤ 12
  · rcases hR with rfl | ⟨b, off, rfl, hR⟩
    · exact valid_nil a cap most w
    · exact valid_some b off cap l most w h12 hR
  · rw [Mk.valid_long h12]; exact valid_long a l.length cap most w h12

end Go.Proofs.Ytmebcdpdpcpnmab
