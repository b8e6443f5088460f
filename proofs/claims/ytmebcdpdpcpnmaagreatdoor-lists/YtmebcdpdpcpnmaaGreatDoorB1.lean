import Derived.Test.YtmebcdpdpcpnmaaGreatDoorA5
namespace Go.Proofs.YtmebcdpdpcpnmaaGreatDoor
open Go.RowKit

set_option maxHeartbeats 1000000 in
theorem isBatch_some (b off cap : Nat) (l : List Mk.Ord) (w : World) (h12 : l.length ≤ 12) (hR : At w b off l) :
    Calls Tryz.prog 57 #[.slice (some ⟨b, off, none⟩) l.length cap] w fun e w' => e = .returned (.bool (Mk.validB 20 l)) ∧ Below w.heap.size w w' := by
  have HR : Hid (At w b off l) := hR
  clear hR
  go_enter Tryz.func57, Tryz.ntmps57
  go_wp2
  go_loopw [10] (fun i wr => ∃ k : Nat, k ≤ l.length ∧ i = .int .i64 k ∧ (l.take k).all (Mk.okB 20) = true ∧ Below w.heap.size w wr) (fun i _ => l.length - (intOf i).toNat)
  case atStart => exact ⟨0, Nat.zero_le _, rfl, by simp, Below.refl _ _⟩
  case round =>
    obtain ⟨k, hk, rfl, hall, hb⟩ := hrel
    have Hall := (show Hid _ from hall)
    have Hb := (show Hid _ from hb)
    clear hall hb
    by_cases hlt : k < l.length
    · obtain ⟨c0, c1, c2⟩ := At.below HR.out Hb.out k hlt
      have hbl := blk_lt c0
      have hlt' : (k : Int) < (l.length : Int) := by omega
      have Hno : Hid (∀ h : Mk.okB 20 l[k] = false, Mk.validB 20 l = false) := fun h => Mk.valid_no hlt h
      have Hyes : Hid (∀ h : Mk.okB 20 l[k] = true, (l.take (k + 1)).all (Mk.okB 20) = true) := fun h => by rw [Mk.all_take_succ _ _ _ hlt, Hall.out, h]; rfl
      revert c0 c1 c2 Hno Hyes
      generalize l[k] = o
      obtain ⟨s, pr, q⟩ := o
      intro c0 c1 c2 Hno Hyes
      simp only at c0 c1 c2
      go_wp2
      all_goals first
        | (go_ret; exact ⟨ret_bool (Hno.out (by simp only [Mk.okB, Bool.and_eq_false_iff, decide_eq_false_iff_not]; omega)).symm, Hb.out.alloc Hb.out.size _⟩)
        | (go_roundw
           case rel => exact ⟨k + 1, by omega, by go_num, Hyes.out (by simp only [Mk.okB, Bool.and_eq_true, decide_eq_true_eq]; omega), Hb.out.alloc Hb.out.size _⟩
           case measure => simp [intOf]; omega)
    · go_wp2
      go_ret
      have : k = l.length := by omega
      subst this
      exact ⟨ret_bool (Mk.valid_yes h12 Hall.out).symm, Hb.out⟩

set_option maxHeartbeats 1000000 in
theorem isBatch_nil (a : Option Addr) (cap : Nat) (w : World) :
    Calls Tryz.prog 57 #[.slice a 0 cap] w fun e w' => e = .returned (.bool true) ∧ Below w.heap.size w w' := by
  go_enter Tryz.func57, Tryz.ntmps57
  go_wp2
  go_loop [10] (fun i => i = .int .i64 0) (fun i => 0)
  case atStart => rfl
  case round =>
    subst hrel
    go_wp2
    go_ret
    exact ⟨rfl, Below.refl _ _⟩

set_option maxHeartbeats 1000000 in
theorem isBatch_long (a : Option Addr) (len cap : Nat) (w : World) (h : ¬ len ≤ 12) :
    Calls Tryz.prog 57 #[.slice a len cap] w fun e w' => e = .returned (.bool false) ∧ Below w.heap.size w w' := by
  have h' : (12 : Int) < (len : Int) := by omega
  go_enter Tryz.func57, Tryz.ntmps57
  go_wp2
  go_ret
  exact ⟨rfl, Below.refl _ _⟩

theorem isBatch_any (a : Option Addr) (cap : Nat) (l : List Mk.Ord) (w : World) (hR : Rd w a l) :
    Calls Tryz.prog 57 #[.slice a l.length cap] w fun e w' => e = .returned (.bool (Mk.validB 20 l)) ∧ Below w.heap.size w w' := by
  by_cases h12 : l.length ≤ 12
  · rcases hR with rfl | ⟨b, off, rfl, hR⟩
    · exact isBatch_nil a cap w
    · exact isBatch_some b off cap l w h12 hR
  · rw [Mk.valid_long h12]; exact isBatch_long a l.length cap w h12

end Go.Proofs.YtmebcdpdpcpnmaaGreatDoor
