import Derived.Test.YtmebcdpdpcpnmaaGreatDoorJ1
import Derived.Test.YtmebcdpdpcpnmaaGreatDoorJ2
import Derived.Test.YtmebcdpdpcpnmaaGreatDoorKPlainD
import Derived.Deep.QuietTactic
import Derived.BigQuiet
namespace Go.Proofs.YtmebcdpdpcpnmaaGreatDoor
open Go.RowKit

set_option maxHeartbeats 400000 in
theorem asksLess_any (s : Bool) (p q : Int) (s2 : Bool) (p2 q2 : Int) (w : World) :
    Calls Tryz.prog 95 #[.agg #[.bool s, .int .i64 p, .int .i64 q], .agg #[.bool s2, .int .i64 p2, .int .i64 q2]] w fun e w' =>
      e = .returned (.bool (Mk.lessB s p p2)) ∧ w' = (w.alloc (.cells #[.bool s, .int .i64 p, .int .i64 q] 123)).alloc (.cells #[.bool s2, .int .i64 p2, .int .i64 q2] 123) := by
  cases s
  all_goals
    go_enter Tryz.func95, Tryz.ntmps95
    go_wp2
    go_ret
    exact ⟨by simp [Mk.lessB], rfl⟩

set_option maxHeartbeats 1000000 in
theorem areSingle_some (b off cap : Nat) (l : List Mk.Ord) (w : World) (h12 : l.length ≤ 12) (hR : At w b off l) :
    Calls Tryz.prog 66 #[.slice (some ⟨b, off, none⟩) l.length cap] w fun e w' => e = .returned (.bool (l.all Mk.oneB)) ∧ Below w.heap.size w w' := by
  have HR : Hid (At w b off l) := hR
  clear hR
  go_enter Tryz.func66, Tryz.ntmps66
  go_wp2
  go_loopw [7] (fun i wr => ∃ k : Nat, k ≤ l.length ∧ i = .int .i64 k ∧ (l.take k).all Mk.oneB = true ∧ Below w.heap.size w wr) (fun i _ => l.length - (intOf i).toNat)
  case atStart => exact ⟨0, Nat.zero_le _, rfl, by simp, Below.refl _ _⟩
  case round =>
    obtain ⟨k, hk, rfl, hall, hb⟩ := hrel
    have Hall := (show Hid _ from hall)
    have Hb := (show Hid _ from hb)
    clear hall hb
    by_cases hlt : k < l.length
    · obtain ⟨c0, c1, c2⟩ := At.below HR.out Hb.out k hlt
      have hbl := blk_lt c0
      have hlt' : (k : Int) < (l.length : Int) := by omega
      have Hno : Hid (∀ h : Mk.oneB l[k] = false, l.all Mk.oneB = false) := fun h => Mk.one_no hlt h
      have Hyes : Hid (∀ h : Mk.oneB l[k] = true, (l.take (k + 1)).all Mk.oneB = true) := fun h => by rw [Mk.all_take_succ _ _ _ hlt, Hall.out, h]; rfl
      revert c0 c1 c2 Hno Hyes
      generalize l[k] = o
      obtain ⟨s, pr, q⟩ := o
      intro c0 c1 c2 Hno Hyes
      simp only at c0 c1 c2
      by_cases hq : q = 1
      · subst hq
        go_wp2
        go_roundw
        case rel => exact ⟨k + 1, by omega, by go_num, Hyes.out (by simp [Mk.oneB]), Hb.out.alloc Hb.out.size _⟩
        case measure => simp [intOf]; omega
      · have hq' : (q == 1) = false := by simpa using hq
        have Hn : Hid (l.all Mk.oneB = false) := Hno.out (by simp [Mk.oneB, hq])
        clear Hno Hyes
        go_wp2
        go_ret
        exact ⟨ret_bool Hn.out.symm, Hb.out.alloc Hb.out.size _⟩
    · go_wp2
      go_ret
      have : k = l.length := by omega
      subst this
      have h := Hall.out
      rw [List.take_length] at h
      exact ⟨ret_bool h.symm, Hb.out⟩

set_option maxHeartbeats 1000000 in
theorem areSingle_nil (a : Option Addr) (cap : Nat) (w : World) :
    Calls Tryz.prog 66 #[.slice a 0 cap] w fun e w' => e = .returned (.bool true) ∧ Below w.heap.size w w' := by
  go_enter Tryz.func66, Tryz.ntmps66
  go_wp2
  go_loop [7] (fun i => i = .int .i64 0) (fun i => 0)
  case atStart => rfl
  case round =>
    subst hrel
    go_wp2
    go_ret
    exact ⟨rfl, Below.refl _ _⟩

theorem areSingle_any (a : Option Addr) (cap : Nat) (l : List Mk.Ord) (w : World) (h12 : l.length ≤ 12) (hR : Rd w a l) :
    Calls Tryz.prog 66 #[.slice a l.length cap] w fun e w' => e = .returned (.bool (l.all Mk.oneB)) ∧ Below w.heap.size w w' := by
  rcases hR with rfl | ⟨b, off, rfl, hR⟩
  · exact areSingle_nil a cap w
  · exact areSingle_some b off cap l w h12 hR

end Go.Proofs.YtmebcdpdpcpnmaaGreatDoor
