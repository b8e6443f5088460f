import Derived.Test.YtmebcdpdpcpnmaaGreatDoorKH1
import Derived.Test.YtmebcdpdpcpnmaaGreatDoorKPlainE
import Derived.Deep.QuietTactic
import Derived.BigQuiet
namespace Go.Proofs.YtmebcdpdpcpnmaaGreatDoor
open Go.RowKit

set_option maxRecDepth 100000 in
set_option maxHeartbeats 1000000 in
theorem sooner_any (b off cap n i k : Nat) (s : Bool) (p q : Int) (w : World) (hi : i < n) (hk : k < n)
    (c0 : w.cell? ⟨b, off + i * 3, none⟩ = some (.bool s)) (c1 : w.cell? ⟨b, off + i * 3 + 1, none⟩ = some (.int .i64 p)) (d1 : w.cell? ⟨b, off + k * 3 + 1, none⟩ = some (.int .i64 q)) :
    Calls Tryz.prog 96 #[.slice (some ⟨b, off, none⟩) n cap, .int .i64 i, .int .i64 k] w fun e w' => e = .returned (.bool (Mk.soonB s p q i k)) ∧ Below w.heap.size w w' := by
  have hi' : (i : Int) < (n : Int) := by omega
  have hk' : (k : Int) < (n : Int) := by omega
  by_cases hp : p = q
  · have hp' : (p == q) = true := by simp [hp]
    have HS : Hid (Mk.soonB s p q i k = decide (i < k)) := (by unfold Mk.soonB; rw [if_pos hp] : Mk.soonB s p q i k = decide (i < k))
    clear hp
    go_enter Tryz.func96, Tryz.ntmps96
    go_wp2
    go_quiet (fail)
    go_wp2
    go_ret
    exact ⟨ret_bool (by rw [HS.out]), below_drewN (Below.refl _ _) _⟩
  · have hp' : (p == q) = false := by simp [hp]
    have HS : Hid (Mk.soonB s p q i k = (s == decide (p < q))) := (by unfold Mk.soonB; rw [if_neg hp] : Mk.soonB s p q i k = (s == decide (p < q)))
    clear hp
    go_enter Tryz.func96, Tryz.ntmps96
    go_wp2
    go_quiet (fail)
    go_wp2
    go_quiet (fail)
    go_wp2
    go_ret
    exact ⟨ret_bool HS.out.symm, below_drewN (below_drewN (Below.refl _ _) _) _⟩

set_option maxRecDepth 100000 in
set_option maxHeartbeats 2000000 in
theorem rank_any (b off cap : Nat) (l : List Mk.Ord) (i : Nat) (w : World) (hi : i < l.length) (h12 : l.length ≤ 12) (hR : At w b off l) :
    Calls Tryz.prog 73 #[.slice (some ⟨b, off, none⟩) l.length cap, .int .i64 i] w fun e w' => e = .returned (.int .i64 (Mk.rk l i : Int)) ∧ Below w.heap.size w w' := by
  have HR : Hid (At w b off l) := hR
  clear hR
  have hi' : (i : Int) < (l.length : Int) := by omega
  go_enter Tryz.func73, Tryz.ntmps73
  go_wp2
  go_loopw [5, 6] (fun n j wr => ∃ k : Nat, k ≤ l.length ∧ j = .int .i64 k ∧ n = .int .i64 (Mk.cnt (Mk.ahdL l i) k : Int) ∧ Below w.heap.size w wr) (fun _ j _ => l.length - (intOf j).toNat)
  case atStart => exact ⟨0, Nat.zero_le _, rfl, rfl, Below.refl _ _⟩
  case round =>
    obtain ⟨k, hk, rfl, rfl, hb⟩ := hrel
    have Hb : Hid (Below w.heap.size w wr) := hb
    clear hb
    have cb := Mk.cnt_le (Mk.ahdL l i) k
    have HAr : Hid (At wr b off l) := HR.out.below Hb.out
    obtain ⟨ci0, ci1, ci2⟩ := HAr.out i hi
    by_cases hlt : k < l.length
    · obtain ⟨c0, c1, c2⟩ := HAr.out k hlt
      have hlt' : (k : Int) < (l.length : Int) := by omega
      by_cases hki : k = i
      · have hki' : ((k : Int) != (i : Int)) = false := by simp; omega
        have HA : Hid (Mk.ahdL l i k = false) := by rw [hki]; exact Mk.ahdL_self
        clear hki
        go_wp2
        go_quiet (fail)
        go_wp2
        go_roundw
        case rel => exact ⟨k + 1, by omega, by go_num, by rw [Mk.cnt_no HA.out], below_drewN Hb.out _⟩
        case measure => simp [intOf]; omega
      · have hki' : ((k : Int) != (i : Int)) = true := by simp; omega
        clear hki
        by_cases hs : l[k].sell = l[i].sell
        · have hs' : (l[k].sell == l[i].sell) = true := by simp [hs]
          have er := Mk.ahdL_soon hi hlt hs
          have HAo : Hid (∀ m, At (wr.drewN m) b off l) := fun m => HAr.out.below (below_drewN (Below.refl _ _) m)
          clear hs
          rcases Bool.eq_false_or_eq_true (Mk.soonB l[k].sell l[k].price l[i].price k i) with hah | hah
          · have HA : Hid (Mk.ahdL l i k = true) := er.trans hah
            clear er
            go_wp2
            go_quiet (fail)
            go_wp2_with (go_at_call 96; refine (sooner_any b off cap l.length k i l[k].sell l[k].price l[i].price _ hlt hi (HAo.out _ k hlt).1 (HAo.out _ k hlt).2.1 (HAo.out _ i hi).2.1).mono ?_; rintro e w' ⟨rfl, hb2⟩; have Hb2 : Hid (Below w.heap.size w w') := (below_drewN Hb.out _).trans (hb2.mono Hb.out.size); clear hb2)
            go_roundw
            case rel => exact ⟨k + 1, by omega, by go_num, by rw [Mk.cnt_yes HA.out], Hb2.out⟩
            case measure => simp [intOf]; omega
          · have HA : Hid (Mk.ahdL l i k = false) := er.trans hah
            clear er
            go_wp2
            go_quiet (fail)
            go_wp2_with (go_at_call 96; refine (sooner_any b off cap l.length k i l[k].sell l[k].price l[i].price _ hlt hi (HAo.out _ k hlt).1 (HAo.out _ k hlt).2.1 (HAo.out _ i hi).2.1).mono ?_; rintro e w' ⟨rfl, hb2⟩; have Hb2 : Hid (Below w.heap.size w w') := (below_drewN Hb.out _).trans (hb2.mono Hb.out.size); clear hb2)
            go_roundw
            case rel => exact ⟨k + 1, by omega, by go_num, by rw [Mk.cnt_no HA.out], Hb2.out⟩
            case measure => simp [intOf]; omega
        · have hs' : (l[k].sell == l[i].sell) = false := by simp [hs]
          have HA : Hid (Mk.ahdL l i k = false) := Mk.ahdL_off hi hlt hs
          clear hs
          go_wp2
          go_quiet (fail)
          go_wp2
          go_roundw
          case rel => exact ⟨k + 1, by omega, by go_num, by rw [Mk.cnt_no HA.out], below_drewN Hb.out _⟩
          case measure => simp [intOf]; omega
    · obtain rfl : k = l.length := by omega
      go_wp2
      go_ret
      exact ⟨rfl, Hb.out⟩

set_option maxRecDepth 100000 in
set_option maxHeartbeats 2000000 in
theorem at_some (b off cap : Nat) (l : List Mk.Ord) (sell : Bool) (m : Nat) (d : Int) (w : World) (h12 : l.length ≤ 12) (hR : At w b off l) :
    Calls Tryz.prog 72 #[.slice (some ⟨b, off, none⟩) l.length cap, .bool sell, .int .i64 m, .int .i64 d] w fun e w' => e = .returned (.int .i64 (Mk.prAt l sell m d)) ∧ Below w.heap.size w w' := by
  have HR : Hid (At w b off l) := hR
  clear hR
  go_enter Tryz.func72, Tryz.ntmps72
  go_wp2
  go_loopw [9] (fun j wr => ∃ k : Nat, k ≤ l.length ∧ j = .int .i64 k ∧ (∀ i, i < k → Mk.sl l i = sell → Mk.rk l i ≠ m) ∧ Below w.heap.size w wr) (fun j _ => l.length - (intOf j).toNat)
  case atStart => exact ⟨0, Nat.zero_le _, rfl, fun i hi => by omega, Below.refl _ _⟩
  case round =>
    obtain ⟨k, hk, rfl, hno, hb⟩ := hrel
    have Hb : Hid (Below w.heap.size w wr) := hb
    have HN : Hid (∀ i, i < k → Mk.sl l i = sell → Mk.rk l i ≠ m) := hno
    clear hb hno
    have HAr : Hid (At wr b off l) := HR.out.below Hb.out
    by_cases hlt : k < l.length
    · obtain ⟨c0, c1, c2⟩ := HAr.out k hlt
      have hlt' : (k : Int) < (l.length : Int) := by omega
      have HSl : Hid (Mk.sl l k = l[k].sell) := Mk.sl_at hlt
      have HPr : Hid (Mk.pr l k = l[k].price) := Mk.pr_at hlt
      by_cases hs : l[k].sell = sell
      · have hs' : (l[k].sell == sell) = true := by simp [hs]
        have HS : Hid (Mk.sl l k = sell) := HSl.out.trans hs
        clear hs
        by_cases hm : Mk.rk l k = m
        · have hm' : ((Mk.rk l k : Int) == (m : Int)) = true := by simp; omega
          have HE : Hid (Mk.prAt l sell m d = l[k].price) := (Mk.prAt_of hlt HS.out hm d).trans HPr.out
          clear hm
          go_wp2_with fail
          refine (rank_any b off cap l k _ hlt h12 HAr.out).mono ?_
          rintro e w2 ⟨rfl, hb2⟩
          obtain ⟨d0, d1, d2⟩ := (HAr.out.below hb2) k hlt
          have Hb2 : Hid (Below w.heap.size w w2) := Hb.out.trans (hb2.mono Hb.out.size)
          clear hb2
          go_wp2
          go_ret
          exact ⟨ret_int HE.out.symm, Hb2.out⟩
        · have hm' : ((Mk.rk l k : Int) == (m : Int)) = false := by simp; omega
          have HE : Hid (∀ i, i < k + 1 → Mk.sl l i = sell → Mk.rk l i ≠ m) := fun i hi hs => by
            by_cases e : i = k
            · subst e; exact hm
            · exact HN.out i (by omega) hs
          clear hm
          go_wp2_with fail
          refine (rank_any b off cap l k _ hlt h12 HAr.out).mono ?_
          rintro e w2 ⟨rfl, hb2⟩
          have Hb2 : Hid (Below w.heap.size w w2) := Hb.out.trans (hb2.mono Hb.out.size)
          clear hb2
          go_wp2
          go_roundw
          case rel => exact ⟨k + 1, by omega, by go_num, HE.out, Hb2.out⟩
          case measure => simp [intOf]; omega
      · have hs' : (l[k].sell == sell) = false := by simp [hs]
        have HE : Hid (∀ i, i < k + 1 → Mk.sl l i = sell → Mk.rk l i ≠ m) := fun i hi hs2 => by
          by_cases e : i = k
          · subst e; exact absurd (HSl.out.symm.trans hs2) hs
          · exact HN.out i (by omega) hs2
        clear hs
        go_wp2
        go_roundw
        case rel => exact ⟨k + 1, by omega, by go_num, HE.out, Hb.out⟩
        case measure => simp [intOf]; omega
    · obtain rfl : k = l.length := by omega
      go_wp2
      go_ret
      exact ⟨ret_int (Mk.prAt_none HN.out d).symm, Hb.out⟩

set_option maxRecDepth 100000 in
set_option maxHeartbeats 1000000 in
theorem at_nil (a : Option Addr) (cap : Nat) (sell : Bool) (m d : Int) (w : World) :
    Calls Tryz.prog 72 #[.slice a 0 cap, .bool sell, .int .i64 m, .int .i64 d] w fun e w' => e = .returned (.int .i64 d) ∧ Below w.heap.size w w' := by
  go_enter Tryz.func72, Tryz.ntmps72
  go_wp2
  go_loop [9] (fun i => i = .int .i64 0) (fun i => 0)
  case atStart => rfl
  case round =>
    subst hrel
    go_wp2
    go_ret
    exact ⟨rfl, Below.refl _ _⟩

theorem at_any (a : Option Addr) (cap : Nat) (l : List Mk.Ord) (sell : Bool) (m : Nat) (d : Int) (w : World) (h12 : l.length ≤ 12) (hR : Rd w a l) :
    Calls Tryz.prog 72 #[.slice a l.length cap, .bool sell, .int .i64 m, .int .i64 d] w fun e w' => e = .returned (.int .i64 (Mk.prAt l sell m d)) ∧ Below w.heap.size w w' := by
  rcases hR with rfl | ⟨b, off, rfl, hR⟩
  · refine (at_nil a cap sell m d w).mono ?_
    rintro e w' ⟨rfl, hb⟩
    exact ⟨ret_int (Mk.prAt_none (fun j hj => by simp at hj) d).symm, hb⟩
  · exact at_some b off cap l sell m d w h12 hR
theorem at_B (a : Option Addr) (cap : Nat) (l : List Mk.Ord) (m : Nat) (w : World) (h12 : l.length ≤ 12) (hR : Rd w a l) :
    Calls Tryz.prog 72 #[.slice a l.length cap, .bool false, .int .i64 m, .int .i64 0] w fun e w' => e = .returned (.int .i64 (Mk.pB l m)) ∧ Below w.heap.size w w' := by
  rw [← Mk.prAt_B]; exact at_any a cap l false m 0 w h12 hR
theorem at_S (a : Option Addr) (cap : Nat) (l : List Mk.Ord) (m : Nat) (w : World) (h12 : l.length ≤ 12) (hR : Rd w a l) :
    Calls Tryz.prog 72 #[.slice a l.length cap, .bool true, .int .i64 m, .int .i64 100] w fun e w' => e = .returned (.int .i64 (Mk.pS l m)) ∧ Below w.heap.size w w' := by
  rw [← Mk.prAt_S]; exact at_any a cap l true m 100 w h12 hR

theorem kTo_yes {l : List Mk.Ord} {k : Nat} (h : Mk.pS l k ≤ Mk.pB l k) : Mk.kTo l (k + 1) = k + 1 := if_pos h
theorem kTo_no {l : List Mk.Ord} {k : Nat} (h : ¬ Mk.pS l k ≤ Mk.pB l k) : Mk.kTo l (k + 1) = Mk.kTo l k := if_neg h

set_option maxRecDepth 100000 in
set_option maxHeartbeats 2000000 in
theorem pairs_any (a : Option Addr) (cap : Nat) (l : List Mk.Ord) (w : World) (h12 : l.length ≤ 12) (hR : Rd w a l) :
    Calls Tryz.prog 71 #[.slice a l.length cap] w fun e w' => e = .returned (.int .i64 (Mk.kk l : Int)) ∧ Below w.heap.size w w' := by
  have HR : Hid (Rd w a l) := hR
  clear hR
  go_enter Tryz.func71, Tryz.ntmps71
  go_wp2
  go_loopw [3, 4] (fun x j wr => ∃ k : Nat, k ≤ l.length ∧ j = .int .i64 k ∧ x = .int .i64 (Mk.kTo l k : Int) ∧ Below w.heap.size w wr) (fun _ j _ => l.length - (intOf j).toNat)
  case atStart => exact ⟨0, Nat.zero_le _, rfl, rfl, Below.refl _ _⟩
  case round =>
    obtain ⟨k, hk, rfl, rfl, hb⟩ := hrel
    have Hb : Hid (Below w.heap.size w wr) := hb
    clear hb
    by_cases hlt : k < l.length
    · have hlt' : (k : Int) < (l.length : Int) := by omega
      by_cases hc : Mk.pS l k ≤ Mk.pB l k
      · have HK : Hid (Mk.kTo l (k + 1) = k + 1) := kTo_yes hc
        go_wp2_with fail
        refine (at_B a cap l k _ h12 (HR.out.below Hb.out)).mono ?_
        rintro e w2 ⟨rfl, hb2⟩
        have Hb2 : Hid (Below w.heap.size w w2) := Hb.out.trans (hb2.mono Hb.out.size)
        clear hb2
        go_wp2_with fail
        refine (at_S a cap l k _ h12 (HR.out.below Hb2.out)).mono ?_
        rintro e w3 ⟨rfl, hb3⟩
        have Hb3 : Hid (Below w.heap.size w w3) := Hb2.out.trans (hb3.mono Hb2.out.size)
        clear hb3
        go_wp2
        go_roundw
        case rel => exact ⟨k + 1, by omega, by go_num, by rw [HK.out]; go_num, Hb3.out⟩
        case measure => simp [intOf]; omega
      · have HK : Hid (Mk.kTo l (k + 1) = Mk.kTo l k) := kTo_no hc
        go_wp2_with fail
        refine (at_B a cap l k _ h12 (HR.out.below Hb.out)).mono ?_
        rintro e w2 ⟨rfl, hb2⟩
        have Hb2 : Hid (Below w.heap.size w w2) := Hb.out.trans (hb2.mono Hb.out.size)
        clear hb2
        go_wp2_with fail
        refine (at_S a cap l k _ h12 (HR.out.below Hb2.out)).mono ?_
        rintro e w3 ⟨rfl, hb3⟩
        have Hb3 : Hid (Below w.heap.size w w3) := Hb2.out.trans (hb3.mono Hb2.out.size)
        clear hb3
        go_wp2
        go_roundw
        case rel => exact ⟨k + 1, by omega, by go_num, by rw [HK.out], Hb3.out⟩
        case measure => simp [intOf]; omega
    · obtain rfl : k = l.length := by omega
      go_wp2
      go_ret
      exact ⟨rfl, Hb.out⟩

end Go.Proofs.YtmebcdpdpcpnmaaGreatDoor
