import Derived.Test.YtmebcdpdpcpnmaaC1
import Derived.Test.YtmebcdpdpcpnmaaE2
import Derived.Test.YtmebcdpdpcpnmaaPlain7
namespace Go.Proofs.Ytmebcdpdpcpnmaa
open Go.RowKit

theorem Mk.sideSum_zero (l : List Mk.Ord) (b : Bool) : Mk.sideSum l b (fun _ => 0) = 0 := Mk.sumn_zero (fun i _ => by split <;> rfl)

set_option maxHeartbeats 1000000 in
theorem shares_law_bad (a : Option Addr) (cap : Nat) (l : List Mk.Ord) (w : World) (hv : Mk.validB 20 l = false) (hR : Rd w a l) :
    Calls Try.prog 6 #[.slice a l.length cap] w fun e w' => e = .returned (.bool true) ∧ Below w.heap.size w w' := by
  have HR : Hid (Rd w a l) := hR
  clear hR
  go_enter Try.func6, Try.ntmps6
  go_wp2_with (go_at_call 12; refine (valid_any a cap l _ _ HR.out).mono ?_; rintro e w1 ⟨rfl, hw1⟩; obtain rfl := hw1.symm)
  go_ret
  exact ⟨rfl, Below.refl _ _⟩

set_option maxHeartbeats 1000000 in
theorem shares_law_nil (a : Option Addr) (cap : Nat) (w : World) :
    Calls Try.prog 6 #[.slice a 0 cap] w fun e w' => e = .returned (.bool true) ∧ Below w.heap.size w w' := by
  have HR : Hid (∀ w : World, Rd w a []) := fun _ => .inl rfl
  have HV : Hid (Mk.validB 20 [] = true) := (rfl : Mk.validB 20 [] = true)
  go_enter Try.func6, Try.ntmps6
  go_wp2_with fail
  refine (valid_nil a cap _ _).mono ?_
  rintro e w1 ⟨rfl, hw1⟩
  obtain rfl := hw1.symm
  go_wp2_with fail
  refine (uniform_zero a cap [] _ HV.out (HR.out _) (Mk.vol_nil _)).mono ?_
  rintro e w1 ⟨g, rfl, hg, hb1, hrow⟩
  have Hb1 : Hid (Below w.heap.size w w1) := hb1
  clear hb1 hrow
  go_wp2_with fail
  refine (sums_nil a cap _ _).mono ?_
  rintro e w2 ⟨rfl, hb2⟩
  have Hb2 : Hid (Below w.heap.size w w2) := Hb1.out.trans (hb2.mono Hb1.out.size)
  clear hb2
  go_wp2_with fail
  refine (worth_any a cap [] _ _ HV.out (HR.out _)).mono ?_
  rintro e w3 ⟨rfl, hb3⟩
  have Hb3 : Hid (Below w.heap.size w w3) := Hb2.out.trans (hb3.mono Hb2.out.size)
  clear hb3
  go_wp2_with (go_at_call 16; refine (got_nil _ _ _ _ _ _ _).mono ?_; rintro e w4 ⟨rfl, hw4⟩; obtain rfl := hw4.symm)
  go_loop [13] (fun i => i = .int .i64 0) (fun i => 0)
  case atStart => rfl
  case round =>
    subst hrel
    go_wp2
    go_ret
    exact ⟨rfl, Hb3.out⟩

set_option maxHeartbeats 1000000 in
theorem shares_law_zero (b off cap : Nat) (l : List Mk.Ord) (w : World) (hv : Mk.validB 20 l = true) (hR : At w b off l) (hz : Mk.vol l (Mk.best l 98) = 0) :
    Calls Try.prog 6 #[.slice (some ⟨b, off, none⟩) l.length cap] w fun e w' => e = .returned (.bool true) ∧ Below w.heap.size w w' := by
  have HA : Hid (At w b off l) := hR
  have HR : Hid (Rd w (some ⟨b, off, none⟩) l) := .inr ⟨b, off, rfl, hR⟩
  have HV : Hid (Mk.validB 20 l = true) := hv
  have h12 := (Mk.ok_of_valid hv).1
  have HZ : Hid (Mk.vol l (Mk.best l 98) = 0) := hz
  have hs0 := Mk.sideSum_zero l false
  have hs1 := Mk.sideSum_zero l true
  clear hR hz
  go_enter Try.func6, Try.ntmps6
  go_wp2_with fail
  refine (valid_any _ cap l _ _ HR.out).mono ?_
  rintro e w1 ⟨rfl, hw1⟩
  obtain rfl := hw1.symm
  go_wp2_with fail
  refine (uniform_zero _ cap l _ HV.out HR.out HZ.out).mono ?_
  rintro e w1 ⟨g, rfl, hg, hb1, hrow⟩
  have Hb1 : Hid (Below w.heap.size w w1) := hb1
  have HRow : Hid (w1.rowIs g 3 l.length (fun _ => .int .i64 0)) := hrow
  clear hb1 hrow
  go_wp2_with fail
  refine (sums_any _ cap l _ _ HV.out (HR.out.below Hb1.out)).mono ?_
  rintro e w2 ⟨rfl, hb2⟩
  have Hb2 : Hid (Below w1.heap.size w1 w2) := hb2
  clear hb2
  go_wp2_with fail
  refine (worth_any _ cap l _ _ HV.out (HR.out.below (Hb1.out.trans (Hb2.out.mono Hb1.out.size)))).mono ?_
  rintro e w3 ⟨rfl, hb3⟩
  have Hb3 : Hid (Below w1.heap.size w1 w3) := Hb2.out.trans (hb3.mono Hb2.out.size)
  clear hb3
  have HA3 : Hid (At w3 b off l) := HA.out.below (Hb1.out.trans (Hb3.out.mono Hb1.out.size))
  have HRow3 : Hid (w3.rowIs g 3 l.length (fun _ => .int .i64 0)) := row_below HRow.out Hb3.out (World.rowIs.lt HRow.out)
  go_wp2_with (go_at_call 16; refine (got_some b off cap l g (fun _ => 0) _ _ h12 (fun _ => by omega) HA3.out HRow3.out).mono ?_; rintro e w4 ⟨rfl, hw4⟩; obtain rfl := hw4.symm)
  go_loopw [13] (fun i wr => ∃ k : Nat, k ≤ l.length ∧ i = .int .i64 k ∧ Below w1.heap.size w1 wr) (fun i _ => l.length - (intOf i).toNat)
  case atStart => exact ⟨0, Nat.zero_le _, rfl, Hb3.out⟩
  case round =>
    obtain ⟨k, hk, rfl, hb⟩ := hrel
    have Hb : Hid (Below w1.heap.size w1 wr) := hb
    clear hb
    by_cases hlt : k < l.length
    · obtain ⟨c0, c1, c2⟩ := At.below HA.out (Hb1.out.trans (Hb.out.mono Hb1.out.size)) k hlt
      have hbl := blk_lt c0
      have fk := World.rowIs.cell (row_below HRow.out Hb.out (World.rowIs.lt HRow.out)) hlt
      have hgl := blk_lt fk
      have hlt' : (k : Int) < (l.length : Int) := by omega
      rcases Bool.eq_false_or_eq_true (Mk.willB l[k].sell l[k].price 0) with hw | hw
      all_goals
        go_wp2_with (go_at_call 17; refine (lwilling_any _ _ _ _ _).mono ?_; rintro e w' ⟨rfl, rfl⟩)
        go_roundw
        case rel => exact ⟨k + 1, by omega, by go_num, Hb.out.alloc Hb.out.size _⟩
        case measure => simp [intOf]; omega
    · go_wp2
      go_ret
      exact ⟨rfl, Hb1.out.trans (Hb.out.mono Hb1.out.size)⟩

end Go.Proofs.Ytmebcdpdpcpnmaa
