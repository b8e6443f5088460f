import Derived.Test.YtmebcdpdpcpnmaaGreatDoorJ1
import Derived.Test.YtmebcdpdpcpnmaaGreatDoorJ8
namespace Go.Proofs.YtmebcdpdpcpnmaaGreatDoor
open Go.RowKit

theorem has_yes {s t : ByteArray} {k : Nat} (h : k + t.size ≤ s.size) (h1 : Mk.hasAt s t k = true) : Mk.has s t = true := by
  unfold Mk.has
  rw [Bool.and_eq_true, decide_eq_true_eq]
  exact ⟨by omega, Mk.hasTo_at (k := s.size - t.size + 1) (i := k) (by omega) h1⟩

set_option maxRecDepth 100000 in
set_option maxHeartbeats 2000000 in
theorem says_any (s t : ByteArray) (w : World) (hs : s.size ≤ 2000000) (ht : t.size ≤ 2000000) :
    Calls Tryz.prog 14 #[.string s, .string t] w fun e w' => e = .returned (.bool (Mk.has s t)) ∧ w' = w := by
  go_enter Tryz.func14, Tryz.ntmps14
  go_wp2
  go_loop [5] (fun j => ∃ k : Nat, j = .int .i64 k ∧ (k = 0 ∨ k + t.size ≤ s.size + 1) ∧ Mk.hasTo s t k = false) (fun j => s.size + 1 - (intOf j).toNat)
  case atStart => exact ⟨0, rfl, .inl rfl, rfl⟩
  case round =>
    obtain ⟨k, rfl, hk, hf⟩ := hrel
    have HF : Hid (Mk.hasTo s t k = false) := hf
    have HK : Hid (k = 0 ∨ k + t.size ≤ s.size + 1) := hk
    have hkb : k ≤ 2000001 := by omega
    have hkb' : (k : Int) ≤ 2000001 := by omega
    clear hf hk
    by_cases hlt : k + t.size ≤ s.size
    · have hlt' : (k : Int) + (t.size : Int) ≤ (s.size : Int) := by omega
      by_cases hat : Mk.hasAt s t k = true
      · have HY : Hid (Mk.has s t = true) := has_yes hlt hat
        have hat' : ((s.extract k (k + t.size)).toList == t.toList) = true := hat
        clear hat
        go_wp2
        go_ret
        exact ⟨by rw [HY.out]; rfl, rfl⟩
      · have hat' : ((s.extract k (k + t.size)).toList == t.toList) = false := Bool.eq_false_iff.2 hat
        have HS : Hid (Mk.hasTo s t (k + 1) = false) := by
          show (Mk.hasTo s t k || Mk.hasAt s t k) = false
          rw [HF.out, Bool.eq_false_iff.2 hat]; rfl
        clear hat
        go_wp2
        go_round
        case rel => exact ⟨k + 1, by go_num, .inr (by omega), HS.out⟩
        case measure => simp [intOf]; omega
    · have hlt' : ¬ (k : Int) + (t.size : Int) ≤ (s.size : Int) := by omega
      have HN : Hid (Mk.has s t = false) := by
        show (decide (t.size ≤ s.size) && Mk.hasTo s t (s.size - t.size + 1)) = false
        by_cases hle : t.size ≤ s.size
        · have : s.size - t.size + 1 = k := by
            rcases HK.out with h0 | h1 <;> omega
          rw [this, HF.out, Bool.and_false]
        · have : decide (t.size ≤ s.size) = false := by rw [decide_eq_false_iff_not]; exact hle
          rw [this]; rfl
      go_wp2
      go_ret
      exact ⟨by rw [HN.out]; rfl, rfl⟩

end Go.Proofs.YtmebcdpdpcpnmaaGreatDoor
