import Derived.Test.YtmebcdpdpcpnmaaGreatDoorJ1
import Derived.Test.YtmebcdpdpcpnmaaGreatDoorJ3
namespace Go.Proofs.YtmebcdpdpcpnmaaGreatDoor
open Go.RowKit

set_option maxHeartbeats 400000 in
theorem rwilling_any (s : Bool) (p q c : Int) (w : World) :
    Calls Tryz.prog 63 #[.agg #[.bool s, .int .i64 p, .int .i64 q], .int .i64 c] w fun e w' =>
      e = .returned (.bool (Mk.willB s p c)) ∧ w' = w.alloc (.cells #[.bool s, .int .i64 p, .int .i64 q] 120) := by
  cases s
  all_goals
    go_enter Tryz.func63, Tryz.ntmps63
    go_wp2
    go_ret
    exact ⟨by simp [Mk.willB], rfl⟩

set_option maxHeartbeats 400000 in
theorem lesser_any (d s : Int) (w : World) (h1 : 0 ≤ d ∧ d ≤ 240) (h2 : 0 ≤ s ∧ s ≤ 240) :
    Calls Tryz.prog 93 #[.int .i64 d, .int .i64 s] w fun e w' => e = .returned (.tuple #[.int .i64 (Mk.less d s), .int .i64 (Mk.apart d s)]) ∧ w' = w := by
  by_cases h : d < s
  · have e1 : Hid (Mk.less d s = d) := (by simp [Mk.less, h] : Mk.less d s = d)
    have e2 : Hid (Mk.apart d s = s - d) := (by simp [Mk.apart, h] : Mk.apart d s = s - d)
    go_enter Tryz.func93, Tryz.ntmps93
    go_wp2
    go_ret2
    exact ⟨by rw [e1.out, e2.out]; rfl, rfl⟩
  · have e1 : Hid (Mk.less d s = s) := (by simp [Mk.less, h] : Mk.less d s = s)
    have e2 : Hid (Mk.apart d s = d - s) := (by simp [Mk.apart, h] : Mk.apart d s = d - s)
    go_enter Tryz.func93, Tryz.ntmps93
    go_wp2
    go_ret2
    exact ⟨by rw [e1.out, e2.out]; rfl, rfl⟩

set_option maxHeartbeats 1000000 in
theorem are_some (b off cap : Nat) (l : List Mk.Ord) (w : World) (h12 : l.length ≤ 12) (hR : At w b off l) :
    Calls Tryz.prog 61 #[.slice (some ⟨b, off, none⟩) l.length cap] w fun e w' => e = .returned (.bool (Mk.validB 20 l)) ∧ w' = w := by
  have HR : Hid (At w b off l) := hR
  clear hR
  go_enter Tryz.func61, Tryz.ntmps61
  go_wp2
  go_loop [3] (fun i => ∃ k : Nat, k ≤ l.length ∧ i = .int .i64 k ∧ (l.take k).all (Mk.okB 20) = true) (fun i => l.length - (intOf i).toNat)
  case atStart => exact ⟨0, Nat.zero_le _, rfl, by simp⟩
  case round =>
    obtain ⟨k, hk, rfl, hall⟩ := hrel
    have Hall := (show Hid _ from hall)
    clear hall
    by_cases hlt : k < l.length
    · obtain ⟨c0, c1, c2⟩ := HR.out k hlt
      go_wp2
      all_goals first
        | (go_ret; exact ⟨ret_bool (Mk.valid_no hlt (by simp only [Mk.okB, Bool.and_eq_false_iff, decide_eq_false_iff_not]; omega)).symm, rfl⟩)
        | (go_round
           case rel => exact ⟨k + 1, by omega, by go_num, by rw [Mk.all_take_succ _ _ _ hlt, Hall.out, Bool.true_and]; simp only [Mk.okB, Bool.and_eq_true, decide_eq_true_eq]; omega⟩
           case measure => simp [intOf]; omega)
    · go_wp2
      go_ret
      have : k = l.length := by omega
      subst this
      exact ⟨ret_bool (Mk.valid_yes h12 Hall.out).symm, rfl⟩

set_option maxHeartbeats 1000000 in
theorem are_nil (a : Option Addr) (cap : Nat) (w : World) :
    Calls Tryz.prog 61 #[.slice a 0 cap] w fun e w' => e = .returned (.bool true) ∧ w' = w := by
  go_enter Tryz.func61, Tryz.ntmps61
  go_wp2
  go_loop [3] (fun i => i = .int .i64 0) (fun i => 0)
  case atStart => rfl
  case round =>
    subst hrel
    go_wp2
    go_ret
    exact ⟨rfl, rfl⟩

set_option maxHeartbeats 1000000 in
theorem are_long (a : Option Addr) (len cap : Nat) (w : World) (h : ¬ len ≤ 12) :
    Calls Tryz.prog 61 #[.slice a len cap] w fun e w' => e = .returned (.bool false) ∧ w' = w := by
  have h' : (12 : Int) < (len : Int) := by omega
  go_enter Tryz.func61, Tryz.ntmps61
  go_wp2
  go_ret
  exact ⟨rfl, rfl⟩

theorem are_any (a : Option Addr) (cap : Nat) (l : List Mk.Ord) (w : World) (hR : Rd w a l) :
    Calls Tryz.prog 61 #[.slice a l.length cap] w fun e w' => e = .returned (.bool (Mk.validB 20 l)) ∧ w' = w := by
  by_cases h12 : l.length ≤ 12
  · rcases hR with rfl | ⟨b, off, rfl, hR⟩
    · exact are_nil a cap w
    · exact are_some b off cap l w h12 hR
  · rw [Mk.valid_long h12]; exact are_long a l.length cap w h12

set_option maxHeartbeats 1000000 in
theorem rsum_some (b off cap : Nat) (l : List Mk.Ord) (sell : Bool) (p : Int) (w : World) (hv : Mk.validB 20 l = true) (hR : At w b off l) :
    Calls Tryz.prog 64 #[.slice (some ⟨b, off, none⟩) l.length cap, .bool sell, .int .i64 p] w fun e w' => e = .returned (.int .i64 (Mk.side l sell p)) ∧ Below w.heap.size w w' := by
  obtain ⟨h12, hok⟩ := Mk.ok_of_valid hv
  have HV : Hid (Mk.validB 20 l = true) := hv
  have HO : Hid (∀ o ∈ l, 1 ≤ o.price ∧ o.price ≤ 99 ∧ 1 ≤ o.qty ∧ o.qty ≤ 20) := hok
  have HR : Hid (At w b off l) := hR
  clear hv hok hR
  go_enter Tryz.func64, Tryz.ntmps64
  go_wp2
  go_loopw [7, 8] (fun n i wr => ∃ k : Nat, k ≤ l.length ∧ i = .int .i64 k ∧ n = .int .i64 (Mk.sumf (Mk.sideq sell p) (l.take k)) ∧ Below w.heap.size w wr) (fun _ i _ => l.length - (intOf i).toNat)
  case atStart => exact ⟨0, Nat.zero_le _, rfl, rfl, Below.refl _ _⟩
  case round =>
    obtain ⟨k, hk, rfl, rfl, hb⟩ := hrel
    have Hb : Hid (Below w.heap.size w wr) := hb
    clear hb
    have bd := Mk.side_take_bd HV.out sell p k
    by_cases hlt : k < l.length
    · obtain ⟨c0, c1, c2⟩ := At.below HR.out Hb.out k hlt
      have hbl := blk_lt c0
      have hd := Mk.sumf_take_succ (Mk.sideq sell p) l k hlt
      have hq := HO.out _ (List.getElem_mem hlt)
      have hlt' : (k : Int) < (l.length : Int) := by omega
      revert c0 c1 c2 hd hq
      generalize l[k] = o
      obtain ⟨s, pr, q⟩ := o
      intro c0 c1 c2 hd hq
      simp only at c0 c1 c2 hq
      obtain ⟨q1, q2⟩ : 0 ≤ q ∧ q ≤ 20 := by omega
      clear hq
      rw [Mk.sideq_mk] at hd
      rcases Bool.eq_false_or_eq_true (Mk.willB s pr p) with hw | hw <;> rcases Bool.eq_false_or_eq_true (s == sell) with hs | hs <;> rw [hw, hs] at hd <;> simp at hd
      all_goals
        have HD := (show Hid _ from hd)
        clear hd
        go_wp2_with (go_at_call 63; refine (rwilling_any _ _ _ _ _).mono ?_; rintro e w' ⟨rfl, rfl⟩)
        go_roundw
        case rel => exact ⟨k + 1, by omega, by go_num, by rw [HD.out], Hb.out.alloc Hb.out.size _⟩
        case measure => simp [intOf]; omega
    · go_wp2
      go_ret
      have : k = l.length := by omega
      subst this
      exact ⟨ret_int (by rw [List.take_length]; rfl), Hb.out⟩

set_option maxHeartbeats 1000000 in
theorem rsum_nil (a : Option Addr) (cap : Nat) (sell : Bool) (p : Int) (w : World) :
    Calls Tryz.prog 64 #[.slice a 0 cap, .bool sell, .int .i64 p] w fun e w' => e = .returned (.int .i64 0) ∧ Below w.heap.size w w' := by
  go_enter Tryz.func64, Tryz.ntmps64
  go_wp2
  go_loop [7, 8] (fun n i => i = .int .i64 0 ∧ n = .int .i64 0) (fun _ i => 0)
  case atStart => exact ⟨rfl, rfl⟩
  case round =>
    obtain ⟨rfl, rfl⟩ := hrel
    go_wp2
    go_ret
    exact ⟨rfl, Below.refl _ _⟩

theorem rsum_any (a : Option Addr) (cap : Nat) (l : List Mk.Ord) (sell : Bool) (p : Int) (w : World) (hv : Mk.validB 20 l = true) (hR : Rd w a l) :
    Calls Tryz.prog 64 #[.slice a l.length cap, .bool sell, .int .i64 p] w fun e w' => e = .returned (.int .i64 (Mk.side l sell p)) ∧ Below w.heap.size w w' := by
  rcases hR with rfl | ⟨b, off, rfl, hR⟩
  · exact rsum_nil a cap sell p w
  · exact rsum_some b off cap l sell p w hv hR

end Go.Proofs.YtmebcdpdpcpnmaaGreatDoor
