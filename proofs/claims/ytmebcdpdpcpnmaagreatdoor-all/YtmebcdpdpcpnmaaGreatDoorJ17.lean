import Derived.Test.YtmebcdpdpcpnmaaGreatDoorJ15
import Derived.Test.YtmebcdpdpcpnmaaGreatDoorJ4
import Derived.Deep.QuietTactic
import Derived.BigQuiet
import Derived.Test.YtmebcdpdpcpnmaaGreatDoorJ1
import Derived.Test.YtmebcdpdpcpnmaaGreatDoorJ2
namespace Go.Proofs.YtmebcdpdpcpnmaaGreatDoor
open Go.RowKit

set_option maxRecDepth 100000 in
set_option maxHeartbeats 1000000 in
theorem sooner_any (b off cap n i k : Nat) (s : Bool) (p q : Int) (w : World) (hi : i < n) (hk : k < n)
    (c0 : w.cell? ⟨b, off + i * 3, none⟩ = some (.bool s)) (c1 : w.cell? ⟨b, off + i * 3 + 1, none⟩ = some (.int .i64 p)) (d1 : w.cell? ⟨b, off + k * 3 + 1, none⟩ = some (.int .i64 q)) :
    Calls Tryz.prog 96 #[.slice (some ⟨b, off, none⟩) n cap, .int .i64 i, .int .i64 k] w fun e w' => e = .returned (.bool (Mk.soonB s p q i k)) ∧ Below w.heap.size w w' := by
  have hi' : (i : Int) < (n : Int) := by omega
  have hk' : (k : Int) < (n : Int) := by omega
  by_cases hp : p = q
  · have hp' : (p == q) = true := by simp [hp]
    have HS : Hid (Mk.soonB s p q i k = decide (i < k)) := (by unfold Mk.soonB; rw [if_pos hp] : Mk.soonB s p q i k = decide (i < k))
    clear hp
    go_enter Tryz.func96, Tryz.ntmps96
    go_wp2
    go_quiet (fail)
    go_wp2
    go_ret
    exact ⟨ret_bool (by rw [HS.out]), below_drewN (Below.refl _ _) _⟩
  · have hp' : (p == q) = false := by simp [hp]
    have HS : Hid (Mk.soonB s p q i k = (s == decide (p < q))) := (by unfold Mk.soonB; rw [if_neg hp] : Mk.soonB s p q i k = (s == decide (p < q)))
    clear hp
    go_enter Tryz.func96, Tryz.ntmps96
    go_wp2
    go_quiet (fail)
    go_wp2
    go_quiet (fail)
    go_wp2
    go_ret
    exact ⟨ret_bool HS.out.symm, below_drewN (below_drewN (Below.refl _ _) _) _⟩

set_option maxRecDepth 100000 in
set_option maxHeartbeats 2000000 in
theorem rank_any (b off cap : Nat) (l : List Mk.Ord) (i : Nat) (w : World) (hi : i < l.length) (h12 : l.length ≤ 12) (hR : At w b off l) :
    Calls Tryz.prog 73 #[.slice (some ⟨b, off, none⟩) l.length cap, .int .i64 i] w fun e w' => e = .returned (.int .i64 (Mk.rk l i : Int)) ∧ Below w.heap.size w w' := by
  have HR : Hid (At w b off l) := hR
  clear hR
  have hi' : (i : Int) < (l.length : Int) := by omega
  go_enter Tryz.func73, Tryz.ntmps73
  go_wp2
  go_loopw [5, 6] (fun n j wr => ∃ k : Nat, k ≤ l.length ∧ j = .int .i64 k ∧ n = .int .i64 (Mk.cnt (Mk.ahdL l i) k : Int) ∧ Below w.heap.size w wr) (fun _ j _ => l.length - (intOf j).toNat)
  case atStart => exact ⟨0, Nat.zero_le _, rfl, rfl, Below.refl _ _⟩
  case round =>
    obtain ⟨k, hk, rfl, rfl, hb⟩ := hrel
    have Hb : Hid (Below w.heap.size w wr) := hb
    clear hb
    have cb := Mk.cnt_le (Mk.ahdL l i) k
    have HAr : Hid (At wr b off l) := HR.out.below Hb.out
    obtain ⟨ci0, ci1, ci2⟩ := HAr.out i hi
    by_cases hlt : k < l.length
    · obtain ⟨c0, c1, c2⟩ := HAr.out k hlt
      have hlt' : (k : Int) < (l.length : Int) := by omega
      by_cases hki : k = i
      · have hki' : ((k : Int) != (i : Int)) = false := by simp; omega
        have HA : Hid (Mk.ahdL l i k = false) := by rw [hki]; exact Mk.ahdL_self
        clear hki
        go_wp2
        go_quiet (fail)
        go_wp2
        go_roundw
        case rel => exact ⟨k + 1, by omega, by go_num, by rw [Mk.cnt_no HA.out], below_drewN Hb.out _⟩
        case measure => simp [intOf]; omega
      · have hki' : ((k : Int) != (i : Int)) = true := by simp; omega
        clear hki
        by_cases hs : l[k].sell = l[i].sell
        · have hs' : (l[k].sell == l[i].sell) = true := by simp [hs]
          have er := Mk.ahdL_soon hi hlt hs
          have HAo : Hid (∀ m, At (wr.drewN m) b off l) := fun m => HAr.out.below (below_drewN (Below.refl _ _) m)
          clear hs
          rcases Bool.eq_false_or_eq_true (Mk.soonB l[k].sell l[k].price l[i].price k i) with hah | hah
          · have HA : Hid (Mk.ahdL l i k = true) := er.trans hah
            clear er
            go_wp2
            go_quiet (fail)
            go_wp2_with (go_at_call 96; refine (sooner_any b off cap l.length k i l[k].sell l[k].price l[i].price _ hlt hi (HAo.out _ k hlt).1 (HAo.out _ k hlt).2.1 (HAo.out _ i hi).2.1).mono ?_; rintro e w' ⟨rfl, hb2⟩; have Hb2 : Hid (Below w.heap.size w w') := (below_drewN Hb.out _).trans (hb2.mono Hb.out.size); clear hb2)
            go_roundw
            case rel => exact ⟨k + 1, by omega, by go_num, by rw [Mk.cnt_yes HA.out], Hb2.out⟩
            case measure => simp [intOf]; omega
          · have HA : Hid (Mk.ahdL l i k = false) := er.trans hah
            clear er
            go_wp2
            go_quiet (fail)
            go_wp2_with (go_at_call 96; refine (sooner_any b off cap l.length k i l[k].sell l[k].price l[i].price _ hlt hi (HAo.out _ k hlt).1 (HAo.out _ k hlt).2.1 (HAo.out _ i hi).2.1).mono ?_; rintro e w' ⟨rfl, hb2⟩; have Hb2 : Hid (Below w.heap.size w w') := (below_drewN Hb.out _).trans (hb2.mono Hb.out.size); clear hb2)
            go_roundw
            case rel => exact ⟨k + 1, by omega, by go_num, by rw [Mk.cnt_no HA.out], Hb2.out⟩
            case measure => simp [intOf]; omega
        · have hs' : (l[k].sell == l[i].sell) = false := by simp [hs]
          have HA : Hid (Mk.ahdL l i k = false) := Mk.ahdL_off hi hlt hs
          clear hs
          go_wp2
          go_quiet (fail)
          go_wp2
          go_roundw
          case rel => exact ⟨k + 1, by omega, by go_num, by rw [Mk.cnt_no HA.out], below_drewN Hb.out _⟩
          case measure => simp [intOf]; omega
    · obtain rfl : k = l.length := by omega
      go_wp2
      go_ret
      exact ⟨rfl, Hb.out⟩

set_option maxRecDepth 100000 in
set_option maxHeartbeats 2000000 in
theorem at_some (b off cap : Nat) (l : List Mk.Ord) (sell : Bool) (m : Nat) (d : Int) (w : World) (h12 : l.length ≤ 12) (hR : At w b off l) :
    Calls Tryz.prog 72 #[.slice (some ⟨b, off, none⟩) l.length cap, .bool sell, .int .i64 m, .int .i64 d] w fun e w' => e = .returned (.int .i64 (Mk.prAt l sell m d)) ∧ Below w.heap.size w w' := by
  have HR : Hid (At w b off l) := hR
  clear hR
  go_enter Tryz.func72, Tryz.ntmps72
  go_wp2
  go_loopw [9] (fun j wr => ∃ k : Nat, k ≤ l.length ∧ j = .int .i64 k ∧ (∀ i, i < k → Mk.sl l i = sell → Mk.rk l i ≠ m) ∧ Below w.heap.size w wr) (fun j _ => l.length - (intOf j).toNat)
  case atStart => exact ⟨0, Nat.zero_le _, rfl, fun i hi => by omega, Below.refl _ _⟩
  case round =>
    obtain ⟨k, hk, rfl, hno, hb⟩ := hrel
    have Hb : Hid (Below w.heap.size w wr) := hb
    have HN : Hid (∀ i, i < k → Mk.sl l i = sell → Mk.rk l i ≠ m) := hno
    clear hb hno
    have HAr : Hid (At wr b off l) := HR.out.below Hb.out
    by_cases hlt : k < l.length
    · obtain ⟨c0, c1, c2⟩ := HAr.out k hlt
      have hlt' : (k : Int) < (l.length : Int) := by omega
      have HSl : Hid (Mk.sl l k = l[k].sell) := Mk.sl_at hlt
      have HPr : Hid (Mk.pr l k = l[k].price) := Mk.pr_at hlt
      by_cases hs : l[k].sell = sell
      · have hs' : (l[k].sell == sell) = true := by simp [hs]
        have HS : Hid (Mk.sl l k = sell) := HSl.out.trans hs
        clear hs
        by_cases hm : Mk.rk l k = m
        · have hm' : ((Mk.rk l k : Int) == (m : Int)) = true := by simp; omega
          have HE : Hid (Mk.prAt l sell m d = l[k].price) := (Mk.prAt_of hlt HS.out hm d).trans HPr.out
          clear hm
          go_wp2_with fail
          refine (rank_any b off cap l k _ hlt h12 HAr.out).mono ?_
          rintro e w2 ⟨rfl, hb2⟩
          obtain ⟨d0, d1, d2⟩ := (HAr.out.below hb2) k hlt
          have Hb2 : Hid (Below w.heap.size w w2) := Hb.out.trans (hb2.mono Hb.out.size)
          clear hb2
          go_wp2
          go_ret
          exact ⟨ret_int HE.out.symm, Hb2.out⟩
        · have hm' : ((Mk.rk l k : Int) == (m : Int)) = false := by simp; omega
          have HE : Hid (∀ i, i < k + 1 → Mk.sl l i = sell → Mk.rk l i ≠ m) := fun i hi hs => by
            by_cases e : i = k
            · subst e; exact hm
            · exact HN.out i (by omega) hs
          clear hm
          go_wp2_with fail
          refine (rank_any b off cap l k _ hlt h12 HAr.out).mono ?_
          rintro e w2 ⟨rfl, hb2⟩
          have Hb2 : Hid (Below w.heap.size w w2) := Hb.out.trans (hb2.mono Hb.out.size)
          clear hb2
          go_wp2
          go_roundw
          case rel => exact ⟨k + 1, by omega, by go_num, HE.out, Hb2.out⟩
          case measure => simp [intOf]; omega
      · have hs' : (l[k].sell == sell) = false := by simp [hs]
        have HE : Hid (∀ i, i < k + 1 → Mk.sl l i = sell → Mk.rk l i ≠ m) := fun i hi hs2 => by
          by_cases e : i = k
          · subst e; exact absurd (HSl.out.symm.trans hs2) hs
          · exact HN.out i (by omega) hs2
        clear hs
        go_wp2
        go_roundw
        case rel => exact ⟨k + 1, by omega, by go_num, HE.out, Hb.out⟩
        case measure => simp [intOf]; omega
    · obtain rfl : k = l.length := by omega
      go_wp2
      go_ret
      exact ⟨ret_int (Mk.prAt_none HN.out d).symm, Hb.out⟩

set_option maxRecDepth 100000 in
set_option maxHeartbeats 1000000 in
theorem at_nil (a : Option Addr) (cap : Nat) (sell : Bool) (m d : Int) (w : World) :
    Calls Tryz.prog 72 #[.slice a 0 cap, .bool sell, .int .i64 m, .int .i64 d] w fun e w' => e = .returned (.int .i64 d) ∧ Below w.heap.size w w' := by
  go_enter Tryz.func72, Tryz.ntmps72
  go_wp2
  go_loop [9] (fun i => i = .int .i64 0) (fun i => 0)
  case atStart => rfl
  case round =>
    subst hrel
    go_wp2
    go_ret
    exact ⟨rfl, Below.refl _ _⟩

theorem at_any (a : Option Addr) (cap : Nat) (l : List Mk.Ord) (sell : Bool) (m : Nat) (d : Int) (w : World) (h12 : l.length ≤ 12) (hR : Rd w a l) :
    Calls Tryz.prog 72 #[.slice a l.length cap, .bool sell, .int .i64 m, .int .i64 d] w fun e w' => e = .returned (.int .i64 (Mk.prAt l sell m d)) ∧ Below w.heap.size w w' := by
  rcases hR with rfl | ⟨b, off, rfl, hR⟩
  · refine (at_nil a cap sell m d w).mono ?_
    rintro e w' ⟨rfl, hb⟩
    exact ⟨ret_int (Mk.prAt_none (fun j hj => by simp at hj) d).symm, hb⟩
  · exact at_some b off cap l sell m d w h12 hR
theorem at_B (a : Option Addr) (cap : Nat) (l : List Mk.Ord) (m : Nat) (w : World) (h12 : l.length ≤ 12) (hR : Rd w a l) :
    Calls Tryz.prog 72 #[.slice a l.length cap, .bool false, .int .i64 m, .int .i64 0] w fun e w' => e = .returned (.int .i64 (Mk.pB l m)) ∧ Below w.heap.size w w' := by
  rw [← Mk.prAt_B]; exact at_any a cap l false m 0 w h12 hR
theorem at_S (a : Option Addr) (cap : Nat) (l : List Mk.Ord) (m : Nat) (w : World) (h12 : l.length ≤ 12) (hR : Rd w a l) :
    Calls Tryz.prog 72 #[.slice a l.length cap, .bool true, .int .i64 m, .int .i64 100] w fun e w' => e = .returned (.int .i64 (Mk.pS l m)) ∧ Below w.heap.size w w' := by
  rw [← Mk.prAt_S]; exact at_any a cap l true m 100 w h12 hR

theorem kTo_yes {l : List Mk.Ord} {k : Nat} (h : Mk.pS l k ≤ Mk.pB l k) : Mk.kTo l (k + 1) = k + 1 := if_pos h
theorem kTo_no {l : List Mk.Ord} {k : Nat} (h : ¬ Mk.pS l k ≤ Mk.pB l k) : Mk.kTo l (k + 1) = Mk.kTo l k := if_neg h

set_option maxRecDepth 100000 in
set_option maxHeartbeats 2000000 in
theorem pairs_any (a : Option Addr) (cap : Nat) (l : List Mk.Ord) (w : World) (h12 : l.length ≤ 12) (hR : Rd w a l) :
    Calls Tryz.prog 71 #[.slice a l.length cap] w fun e w' => e = .returned (.int .i64 (Mk.kk l : Int)) ∧ Below w.heap.size w w' := by
  have HR : Hid (Rd w a l) := hR
  clear hR
  go_enter Tryz.func71, Tryz.ntmps71
  go_wp2
  go_loopw [3, 4] (fun x j wr => ∃ k : Nat, k ≤ l.length ∧ j = .int .i64 k ∧ x = .int .i64 (Mk.kTo l k : Int) ∧ Below w.heap.size w wr) (fun _ j _ => l.length - (intOf j).toNat)
  case atStart => exact ⟨0, Nat.zero_le _, rfl, rfl, Below.refl _ _⟩
  case round =>
    obtain ⟨k, hk, rfl, rfl, hb⟩ := hrel
    have Hb : Hid (Below w.heap.size w wr) := hb
    clear hb
    by_cases hlt : k < l.length
    · have hlt' : (k : Int) < (l.length : Int) := by omega
      by_cases hc : Mk.pS l k ≤ Mk.pB l k
      · have HK : Hid (Mk.kTo l (k + 1) = k + 1) := kTo_yes hc
        go_wp2_with fail
        refine (at_B a cap l k _ h12 (HR.out.below Hb.out)).mono ?_
        rintro e w2 ⟨rfl, hb2⟩
        have Hb2 : Hid (Below w.heap.size w w2) := Hb.out.trans (hb2.mono Hb.out.size)
        clear hb2
        go_wp2_with fail
        refine (at_S a cap l k _ h12 (HR.out.below Hb2.out)).mono ?_
        rintro e w3 ⟨rfl, hb3⟩
        have Hb3 : Hid (Below w.heap.size w w3) := Hb2.out.trans (hb3.mono Hb2.out.size)
        clear hb3
        go_wp2
        go_roundw
        case rel => exact ⟨k + 1, by omega, by go_num, by rw [HK.out]; go_num, Hb3.out⟩
        case measure => simp [intOf]; omega
      · have HK : Hid (Mk.kTo l (k + 1) = Mk.kTo l k) := kTo_no hc
        go_wp2_with fail
        refine (at_B a cap l k _ h12 (HR.out.below Hb.out)).mono ?_
        rintro e w2 ⟨rfl, hb2⟩
        have Hb2 : Hid (Below w.heap.size w w2) := Hb.out.trans (hb2.mono Hb.out.size)
        clear hb2
        go_wp2_with fail
        refine (at_S a cap l k _ h12 (HR.out.below Hb2.out)).mono ?_
        rintro e w3 ⟨rfl, hb3⟩
        have Hb3 : Hid (Below w.heap.size w w3) := Hb2.out.trans (hb3.mono Hb2.out.size)
        clear hb3
        go_wp2
        go_roundw
        case rel => exact ⟨k + 1, by omega, by go_num, by rw [HK.out], Hb3.out⟩
        case measure => simp [intOf]; omega
    · obtain rfl : k = l.length := by omega
      go_wp2
      go_ret
      exact ⟨rfl, Hb.out⟩

end Go.Proofs.YtmebcdpdpcpnmaaGreatDoor

namespace Go.Proofs.YtmebcdpdpcpnmaaGreatDoor
open Go.RowKit

set_option maxHeartbeats 400000 in
theorem asksLess_any (s : Bool) (p q : Int) (s2 : Bool) (p2 q2 : Int) (w : World) :
    Calls Tryz.prog 95 #[.agg #[.bool s, .int .i64 p, .int .i64 q], .agg #[.bool s2, .int .i64 p2, .int .i64 q2]] w fun e w' =>
      e = .returned (.bool (Mk.lessB s p p2)) ∧ w' = (w.alloc (.cells #[.bool s, .int .i64 p, .int .i64 q] 123)).alloc (.cells #[.bool s2, .int .i64 p2, .int .i64 q2] 123) := by
  cases s
  all_goals
    go_enter Tryz.func95, Tryz.ntmps95
    go_wp2
    go_ret
    exact ⟨by simp [Mk.lessB], rfl⟩

set_option maxHeartbeats 1000000 in
theorem areSingle_some (b off cap : Nat) (l : List Mk.Ord) (w : World) (h12 : l.length ≤ 12) (hR : At w b off l) :
    Calls Tryz.prog 66 #[.slice (some ⟨b, off, none⟩) l.length cap] w fun e w' => e = .returned (.bool (l.all Mk.oneB)) ∧ Below w.heap.size w w' := by
  have HR : Hid (At w b off l) := hR
  clear hR
  go_enter Tryz.func66, Tryz.ntmps66
  go_wp2
  go_loopw [7] (fun i wr => ∃ k : Nat, k ≤ l.length ∧ i = .int .i64 k ∧ (l.take k).all Mk.oneB = true ∧ Below w.heap.size w wr) (fun i _ => l.length - (intOf i).toNat)
  case atStart => exact ⟨0, Nat.zero_le _, rfl, by simp, Below.refl _ _⟩
  case round =>
    obtain ⟨k, hk, rfl, hall, hb⟩ := hrel
    have Hall := (show Hid _ from hall)
    have Hb := (show Hid _ from hb)
    clear hall hb
    by_cases hlt : k < l.length
    · obtain ⟨c0, c1, c2⟩ := At.below HR.out Hb.out k hlt
      have hbl := blk_lt c0
      have hlt' : (k : Int) < (l.length : Int) := by omega
      have Hno : Hid (∀ h : Mk.oneB l[k] = false, l.all Mk.oneB = false) := fun h => Mk.one_no hlt h
      have Hyes : Hid (∀ h : Mk.oneB l[k] = true, (l.take (k + 1)).all Mk.oneB = true) := fun h => by rw [Mk.all_take_succ _ _ _ hlt, Hall.out, h]; rfl
      revert c0 c1 c2 Hno Hyes
      generalize l[k] = o
      obtain ⟨s, pr, q⟩ := o
      intro c0 c1 c2 Hno Hyes
      simp only at c0 c1 c2
      by_cases hq : q = 1
      · subst hq
        go_wp2
        go_roundw
        case rel => exact ⟨k + 1, by omega, by go_num, Hyes.out (by simp [Mk.oneB]), Hb.out.alloc Hb.out.size _⟩
        case measure => simp [intOf]; omega
      · have hq' : (q == 1) = false := by simpa using hq
        have Hn : Hid (l.all Mk.oneB = false) := Hno.out (by simp [Mk.oneB, hq])
        clear Hno Hyes
        go_wp2
        go_ret
        exact ⟨ret_bool Hn.out.symm, Hb.out.alloc Hb.out.size _⟩
    · go_wp2
      go_ret
      have : k = l.length := by omega
      subst this
      have h := Hall.out
      rw [List.take_length] at h
      exact ⟨ret_bool h.symm, Hb.out⟩

set_option maxHeartbeats 1000000 in
theorem areSingle_nil (a : Option Addr) (cap : Nat) (w : World) :
    Calls Tryz.prog 66 #[.slice a 0 cap] w fun e w' => e = .returned (.bool true) ∧ Below w.heap.size w w' := by
  go_enter Tryz.func66, Tryz.ntmps66
  go_wp2
  go_loop [7] (fun i => i = .int .i64 0) (fun i => 0)
  case atStart => rfl
  case round =>
    subst hrel
    go_wp2
    go_ret
    exact ⟨rfl, Below.refl _ _⟩

theorem areSingle_any (a : Option Addr) (cap : Nat) (l : List Mk.Ord) (w : World) (h12 : l.length ≤ 12) (hR : Rd w a l) :
    Calls Tryz.prog 66 #[.slice a l.length cap] w fun e w' => e = .returned (.bool (l.all Mk.oneB)) ∧ Below w.heap.size w w' := by
  rcases hR with rfl | ⟨b, off, rfl, hR⟩
  · exact areSingle_nil a cap w
  · exact areSingle_some b off cap l w h12 hR

end Go.Proofs.YtmebcdpdpcpnmaaGreatDoor

namespace Go.Proofs.YtmebcdpdpcpnmaaGreatDoor
open Go.RowKit

/-- an order in a box -/
structure Bx (w : World) (B : Nat) (o : Mk.Ord) : Prop where
  c0 : w.cell? ⟨B, 0, none⟩ = some (.bool o.sell)
  c1 : w.cell? ⟨B, 1, none⟩ = some (.int .i64 o.price)
  c2 : w.cell? ⟨B, 2, none⟩ = some (.int .i64 o.qty)

theorem Bx.lt {w : World} {B : Nat} {o : Mk.Ord} (h : Bx w B o) : B < w.heap.size := blk_lt h.c0
theorem Bx.below {w w' : World} {B n : Nat} {o : Mk.Ord} (h : Bx w B o) (hb : Below n w w') (hn : B < n) : Bx w' B o :=
  ⟨(hb.cell (p := ⟨B, 0, none⟩) hn).trans h.c0, (hb.cell (p := ⟨B, 1, none⟩) hn).trans h.c1, (hb.cell (p := ⟨B, 2, none⟩) hn).trans h.c2⟩
theorem Bx.alloc {w : World} {B : Nat} {o : Mk.Ord} (h : Bx w B o) (x : Obj) : Bx (w.alloc x) B o :=
  h.below ((Below.refl w.heap.size w).alloc (Nat.le_refl _) x) h.lt
theorem Bx.set {w : World} {B b i : Nat} {o : Mk.Ord} (h : Bx w B o) (v : Value) (hne : B ≠ b) : Bx (w.setCell ⟨b, i, none⟩ v) B o :=
  ⟨cell_set_ne (by omega) h.c0, cell_set_ne (by omega) h.c1, cell_set_ne (by omega) h.c2⟩
theorem Bx.born (w : World) (o : Mk.Ord) (t : TypeId) : Bx (w.alloc (.cells #[.bool o.sell, .int .i64 o.price, .int .i64 o.qty] t)) w.heap.size o :=
  ⟨by simp, by simp, by simp⟩

/-- a row of the call's own, at its first block -/
structure Pl (w wr : World) (n : Nat) (R : Nat → Int) : Prop where
  below : Below w.heap.size w wr
  row : wr.rowIs w.heap.size 3 n (fun j => .int .i64 (R j))
theorem Pl.next {w wr w' : World} {n : Nat} {R : Nat → Int} (h : Pl w wr n R) (hb : Below wr.heap.size wr w') : Pl w w' n R :=
  ⟨h.below.trans (hb.mono h.below.size), row_below h.row hb h.row.lt⟩
theorem Pl.alloc {w wr : World} {n : Nat} {R : Nat → Int} (h : Pl w wr n R) (o : Obj) : Pl w (wr.alloc o) n R :=
  h.next ((Below.refl _ _).alloc (Nat.le_refl _) o)
theorem Pl.set {w wr : World} {n : Nat} {R : Nat → Int} (h : Pl w wr n R) (i : Nat) (v : Int) : Pl w (wr.setCell ⟨w.heap.size, i, none⟩ (.int .i64 v)) n (fun j => if j = i then v else R j) :=
  ⟨h.below.setCell (Nat.le_refl _) _, (h.row.set i (.int .i64 v)).congr (fun j _ => by by_cases e : j = i <;> simp [e])⟩
theorem Pl.congr {w wr : World} {n : Nat} {R R' : Nat → Int} (h : Pl w wr n R) (hR : ∀ i, i < n → R i = R' i) : Pl w wr n R' :=
  ⟨h.below, h.row.congr (fun i hi => by rw [hR i hi])⟩

/-- the places, behind i orders and k of the next one's -/
def rkTo (l : List Mk.Ord) (i k : Nat) (j : Nat) : Int := if j < i then Mk.rk l j else if j = i then Mk.cnt (Mk.ahdL l i) k else 0
theorem rkTo_yes {l : List Mk.Ord} {i k : Nat} (h : Mk.ahdL l i k = true) (j : Nat) : (if j = i then ((Mk.cnt (Mk.ahdL l i) k : Nat) : Int) + 1 else rkTo l i k j) = rkTo l i (k + 1) j := by
  unfold rkTo
  by_cases e : j = i
  · subst e; rw [if_pos rfl, if_neg (by omega), if_pos rfl, Mk.cnt_yes h]
  · rw [if_neg e]
    by_cases h2 : j < i
    · rw [if_pos h2, if_pos h2]
    · rw [if_neg h2, if_neg h2, if_neg e, if_neg e]
theorem rkTo_no {l : List Mk.Ord} {i k : Nat} (h : Mk.ahdL l i k = false) (j : Nat) : rkTo l i k j = rkTo l i (k + 1) j := by
  unfold rkTo; rw [Mk.cnt_no h]
theorem rkTo_end {l : List Mk.Ord} {i : Nat} (j : Nat) : rkTo l i l.length j = rkTo l (i + 1) 0 j := by
  unfold rkTo
  by_cases e : j = i
  · subst e; rw [if_neg (by omega), if_pos rfl, if_pos (by omega)]; rfl
  · by_cases h2 : j < i
    · rw [if_pos h2, if_pos (by omega)]
    · rw [if_neg h2, if_neg e, if_neg (by omega)]
      split
      · rfl
      · rfl
theorem rkTo_self {l : List Mk.Ord} {i k : Nat} : rkTo l i k i = Mk.cnt (Mk.ahdL l i) k := by unfold rkTo; rw [if_neg (by omega), if_pos rfl]

set_option maxRecDepth 100000 in
set_option maxHeartbeats 2000000 in
theorem rowPlaces_some (b off cap : Nat) (l : List Mk.Ord) (w : World) (h12 : l.length ≤ 12) (hR : At w b off l) :
    Calls Tryz.prog 67 #[.slice (some ⟨b, off, none⟩) l.length cap] w fun e w' => e = .returned (.slice (some ⟨w.heap.size, 0, none⟩) l.length l.length) ∧ Pl w w' l.length (fun j => (Mk.rk l j : Int)) := by
  have HR : Hid (At w b off l) := hR
  clear hR
  have hmk := run_make_row' (P := Tryz.prog) 53 3 (.int .i64 0) 8 Tryz.underlying53 Tryz.infoInt rfl .i64 .i64 l.length (by omega) (by omega)
  go_enter Tryz.func67, Tryz.ntmps67
  go_wp2
  go_loopw [13] (fun i wr => ∃ k : Nat, k ≤ l.length ∧ i = .int .i64 k ∧ Pl w wr l.length (rkTo l k 0)) (fun i _ => l.length - (intOf i).toNat)
  case atStart =>
    refine ⟨0, Nat.zero_le _, rfl, ⟨(Below.refl _ _).alloc (Nat.le_refl _) _, ?_⟩⟩
    exact (World.rowIs_made w (.int .i64 0) l.length 3).congr (fun j _ => by unfold rkTo; simp [Mk.cnt])
  case round =>
    obtain ⟨i, hi, rfl, hb⟩ := hrel
    have Hb : Hid (Pl w wr l.length (rkTo l i 0)) := hb
    clear hb hmk
    have z0 : w.heap.size < wr.heap.size := Hb.out.row.lt
    by_cases hlt : i < l.length
    · obtain ⟨c0, c1, c2⟩ := At.below HR.out Hb.out.below i hlt
      have hbl := blk_lt c0
      have hlt' : (i : Int) < (l.length : Int) := by omega
      obtain ⟨wo, hwo⟩ : ∃ wo : World, wo = wr := ⟨_, rfl⟩
      subst hwo
      go_wp2
      go_loopw [20] (fun j wr => ∃ k : Nat, k ≤ l.length ∧ j = .int .i64 k ∧ Pl w wr l.length (rkTo l i k) ∧ Bx wr wo.heap.size l[i]) (fun j _ => l.length - (intOf j).toNat)
      case atStart => exact ⟨0, Nat.zero_le _, rfl, Hb.out.alloc _, Bx.born _ _ _⟩
      case round =>
        clear Hb c0 c1 c2 hbl
        obtain ⟨k, hk, rfl, hb, hx⟩ := hrel
        have Hb : Hid (Pl w wr l.length (rkTo l i k)) := hb
        have HX : Hid (Bx wr wo.heap.size l[i]) := hx
        clear hb
        obtain ⟨x0, x1, x2⟩ := hx
        have zx : wo.heap.size < wr.heap.size := HX.out.lt
        have zw : w.heap.size < wr.heap.size := Hb.out.row.lt
        have y1 : wo.heap.size < wr.heap.size + 1 := by omega
        have y2 : wo.heap.size < wr.heap.size + 1 + 1 := by omega
        have y3 : wo.heap.size < wr.heap.size + 1 + 1 + 1 := by omega
        have t1 : w.heap.size < wr.heap.size + 1 := by omega
        have t2 : w.heap.size < wr.heap.size + 1 + 1 := by omega
        have t3 : w.heap.size < wr.heap.size + 1 + 1 + 1 := by omega
        by_cases hkl : k < l.length
        · obtain ⟨c0, c1, c2⟩ := At.below HR.out Hb.out.below k hkl
          have hbl := blk_lt c0
          have hkl' : (k : Int) < (l.length : Int) := by omega
          have rc := Hb.out.row.cell hlt
          have rf := Hb.out.row.frozen i
          have cb := Mk.cnt_le (Mk.ahdL l i) k
          rw [rkTo_self] at rc
          by_cases hs : l[k].sell = l[i].sell
          · have hs' : (l[k].sell == l[i].sell) = true := by simp [hs]
            have HS : Hid (l[k].sell = l[i].sell) := hs
            clear hs
            rcases Bool.eq_false_or_eq_true (Mk.lessB l[k].sell l[k].price l[i].price) with hl | hl
            · have HA : Hid (Mk.ahdL l i k = true) := Mk.ahdL_yes hlt hkl HS.out (.inl hl)
              go_wp2_with (go_at_call 95; refine (asksLess_any _ _ _ _ _ _ _).mono ?_; rintro e w' ⟨rfl, rfl⟩)
              go_roundw
              case rel =>
                refine ⟨k + 1, by omega, by go_num, ?_, ?_⟩
                · exact ((((Hb.out.set i _).alloc _).alloc _).alloc _).congr (fun j _ => rkTo_yes HA.out j)
                · exact (((HX.out.set _ (by omega)).alloc _).alloc _).alloc _
              case measure => simp [intOf]; omega
            · by_cases hp : l[k].price = l[i].price
              · have hp' : (l[k].price == l[i].price) = true := by simp [hp]
                have HP : Hid (l[k].price = l[i].price) := hp
                clear hp
                by_cases hki : k < i
                · have hki' : (k : Int) < (i : Int) := by omega
                  have HA : Hid (Mk.ahdL l i k = true) := Mk.ahdL_yes hlt hkl HS.out (.inr ⟨HP.out, hki⟩)
                  go_wp2_with (go_at_call 95; refine (asksLess_any _ _ _ _ _ _ _).mono ?_; rintro e w' ⟨rfl, rfl⟩)
                  go_roundw
                  case rel =>
                    refine ⟨k + 1, by omega, by go_num, ?_, ?_⟩
                    · exact ((((Hb.out.set i _).alloc _).alloc _).alloc _).congr (fun j _ => rkTo_yes HA.out j)
                    · exact (((HX.out.set _ (by omega)).alloc _).alloc _).alloc _
                  case measure => simp [intOf]; omega
                · have hki' : ¬ (k : Int) < (i : Int) := by omega
                  have HA : Hid (Mk.ahdL l i k = false) := Mk.ahdL_nope hlt hkl HS.out hl (fun h => hki h.2)
                  go_wp2_with (go_at_call 95; refine (asksLess_any _ _ _ _ _ _ _).mono ?_; rintro e w' ⟨rfl, rfl⟩)
                  go_roundw
                  case rel =>
                    refine ⟨k + 1, by omega, by go_num, ?_, ?_⟩
                    · exact (((Hb.out.alloc _).alloc _).alloc _).congr (fun j _ => rkTo_no HA.out j)
                    · exact ((HX.out.alloc _).alloc _).alloc _
                  case measure => simp [intOf]; omega
              · have hp' : (l[k].price == l[i].price) = false := by simp [hp]
                have HA : Hid (Mk.ahdL l i k = false) := Mk.ahdL_nope hlt hkl HS.out hl (fun h => hp h.1)
                clear hp
                go_wp2_with (go_at_call 95; refine (asksLess_any _ _ _ _ _ _ _).mono ?_; rintro e w' ⟨rfl, rfl⟩)
                go_roundw
                case rel =>
                  refine ⟨k + 1, by omega, by go_num, ?_, ?_⟩
                  · exact (((Hb.out.alloc _).alloc _).alloc _).congr (fun j _ => rkTo_no HA.out j)
                  · exact ((HX.out.alloc _).alloc _).alloc _
                case measure => simp [intOf]; omega
          · have hs' : (l[k].sell == l[i].sell) = false := by simp [hs]
            have HA : Hid (Mk.ahdL l i k = false) := Mk.ahdL_off hlt hkl hs
            clear hs
            go_wp2
            go_roundw
            case rel =>
              refine ⟨k + 1, by omega, by go_num, ?_, ?_⟩
              · exact (Hb.out.alloc _).congr (fun j _ => rkTo_no HA.out j)
              · exact HX.out.alloc _
            case measure => simp [intOf]; omega
        · obtain rfl : k = l.length := by omega
          go_wp2
          go_roundw
          case rel => exact ⟨i + 1, by omega, by go_num, Hb.out.congr (fun j _ => rkTo_end j)⟩
          case measure => simp [intOf]; omega
    · obtain rfl : i = l.length := by omega
      go_wp2
      go_ret
      exact ⟨rfl, Hb.out.congr (fun j hj => by unfold rkTo; rw [if_pos hj])⟩

set_option maxRecDepth 100000 in
set_option maxHeartbeats 1000000 in
theorem rowPlaces_nil (a : Option Addr) (n cap : Nat) (hn : ¬ (0 : Int) < (n : Int)) (w : World) :
    Calls Tryz.prog 67 #[.slice a n cap] w fun e w' => e = .returned (.slice (some ⟨w.heap.size, 0, none⟩) n n) ∧ Pl w w' n (fun _ => 0) := by
  have hmk := run_make_row' (P := Tryz.prog) 53 3 (.int .i64 0) 8 Tryz.underlying53 Tryz.infoInt rfl .i64 .i64 n (by omega) (by omega)
  go_enter Tryz.func67, Tryz.ntmps67
  go_wp2
  go_loopw [13] (fun i wr => i = .int .i64 0 ∧ Pl w wr n (fun _ => 0)) (fun i _ => 0)
  case atStart => exact ⟨rfl, (Below.refl _ _).alloc (Nat.le_refl _) _, World.rowIs_made w (.int .i64 0) n 3⟩
  case round =>
    obtain ⟨rfl, hb⟩ := hrel
    have Hb : Hid (Pl w wr n (fun _ => 0)) := hb
    clear hb hmk
    go_wp2
    go_ret
    exact ⟨rfl, Hb.out⟩

theorem rowPlaces_any (a : Option Addr) (cap : Nat) (l : List Mk.Ord) (w : World) (h12 : l.length ≤ 12) (hR : Rd w a l) :
    Calls Tryz.prog 67 #[.slice a l.length cap] w fun e w' => e = .returned (.slice (some ⟨w.heap.size, 0, none⟩) l.length l.length) ∧ Pl w w' l.length (fun j => (Mk.rk l j : Int)) := by
  rcases hR with rfl | ⟨b, off, rfl, hR⟩
  · refine (rowPlaces_nil a 0 cap (by simp) w).mono ?_
    rintro e w' ⟨rfl, h⟩
    exact ⟨rfl, h.congr (fun j hj => by omega)⟩
  · exact rowPlaces_some b off cap l w h12 hR

end Go.Proofs.YtmebcdpdpcpnmaaGreatDoor
