import Derived.Test.YtmebcdpdpcpnmaaB4
namespace Go.Proofs.Ytmebcdpdpcpnmaa
open Go.RowKit

set_option maxHeartbeats 1000000 in
theorem sums_nil (a : Option Addr) (cap : Nat) (p : Int) (w : World) :
    Calls Try.prog 15 #[.slice a 0 cap, .int .i64 p] w fun e w' => e = .returned (.tuple #[.int .i64 0, .int .i64 0]) ∧ Below w.heap.size w w' := by
  go_enter Try.func15, Try.ntmps15
  go_wp2
  go_loop [6, 7, 8] (fun d s i => i = .int .i64 0 ∧ d = .int .i64 0 ∧ s = .int .i64 0) (fun _ _ i => 0)
  case atStart => exact ⟨rfl, rfl, rfl⟩
  case round =>
    obtain ⟨rfl, rfl, rfl⟩ := hrel
    go_wp2
    go_ret2
    exact ⟨rfl, Below.refl _ _⟩

theorem sums_any (a : Option Addr) (cap : Nat) (l : List Mk.Ord) (p : Int) (w : World) (hv : Mk.validB 20 l = true) (hR : Rd w a l) :
    Calls Try.prog 15 #[.slice a l.length cap, .int .i64 p] w fun e w' => e = .returned (.tuple #[.int .i64 (Mk.dem l p), .int .i64 (Mk.sup l p)]) ∧ Below w.heap.size w w' := by
  rcases hR with rfl | ⟨b, off, rfl, hR⟩
  · exact sums_nil a cap p w
  · exact sums_some b off cap l p w hv hR

set_option maxHeartbeats 1000000 in
theorem worth_any (a : Option Addr) (cap : Nat) (l : List Mk.Ord) (p : Int) (w : World) (hv : Mk.validB 20 l = true) (hR : Rd w a l) :
    Calls Try.prog 14 #[.slice a l.length cap, .int .i64 p] w fun e w' => e = .returned (.tuple #[.int .i64 (Mk.vol l p), .int .i64 (Mk.gap l p)]) ∧ Below w.heap.size w w' := by
  have HR : Hid (Rd w a l) := hR
  have HV : Hid (Mk.validB 20 l = true) := hv
  have bd := Mk.dem_bd hv p
  have bs := Mk.sup_bd hv p
  clear hR hv
  by_cases h : Mk.dem l p < Mk.sup l p
  · have e1 : Hid (Mk.vol l p = Mk.dem l p) := (by simp [Mk.vol, Mk.less, h] : Mk.vol l p = Mk.dem l p)
    have e2 : Hid (Mk.gap l p = Mk.sup l p - Mk.dem l p) := (by simp [Mk.gap, Mk.apart, h] : Mk.gap l p = Mk.sup l p - Mk.dem l p)
    go_enter Try.func14, Try.ntmps14
    go_wp2_with (go_at_call 15; refine (sums_any a cap l p _ HV.out HR.out).mono ?_; rintro e w1 ⟨rfl, hb1⟩)
    go_ret2
    exact ⟨by rw [e1.out, e2.out]; rfl, by assumption⟩
  · have e1 : Hid (Mk.vol l p = Mk.sup l p) := (by simp [Mk.vol, Mk.less, h] : Mk.vol l p = Mk.sup l p)
    have e2 : Hid (Mk.gap l p = Mk.dem l p - Mk.sup l p) := (by simp [Mk.gap, Mk.apart, h] : Mk.gap l p = Mk.dem l p - Mk.sup l p)
    go_enter Try.func14, Try.ntmps14
    go_wp2_with (go_at_call 15; refine (sums_any a cap l p _ HV.out HR.out).mono ?_; rintro e w1 ⟨rfl, hb1⟩)
    go_ret2
    exact ⟨by rw [e1.out, e2.out]; rfl, by assumption⟩

theorem vol_bd {l : List Mk.Ord} (hv : Mk.validB 20 l = true) (p : Int) : 0 ≤ Mk.vol l p ∧ Mk.vol l p ≤ 240 := Mk.less_bd (Mk.dem_bd hv p) (Mk.sup_bd hv p)

set_option maxHeartbeats 1000000 in
theorem best_law_bad (a : Option Addr) (cap : Nat) (l : List Mk.Ord) (w : World) (hv : Mk.validB 20 l = false) (hR : Rd w a l) :
    Calls Try.prog 5 #[.slice a l.length cap] w fun e w' => e = .returned (.bool true) ∧ Below w.heap.size w w' := by
  have HR : Hid (Rd w a l) := hR
  clear hR
  have hnil := fun (w : World) (a : Option Addr) (n c : Nat) => Lib.run_eql_slice_nil (P := Try.prog) w 24 3 a n c 0 0 Try.underlying24
  go_enter Try.func5, Try.ntmps5
  go_wp2_with (first | (go_at_call 12; refine (valid_any a cap l _ _ HR.out).mono ?_; rintro e w1 ⟨rfl, hw1⟩; obtain rfl := hw1.symm) | (go_at_call 13; refine (uniform_bad a cap l _ hv HR.out).mono ?_; rintro e w1 ⟨rfl, hb1⟩))
  go_ret
  exact ⟨rfl, by assumption⟩

set_option maxHeartbeats 1000000 in
theorem best_law_zero (a : Option Addr) (cap : Nat) (l : List Mk.Ord) (w : World) (hv : Mk.validB 20 l = true) (hR : Rd w a l) (hz : Mk.vol l (Mk.best l 98) = 0) :
    Calls Try.prog 5 #[.slice a l.length cap] w fun e w' => e = .returned (.bool true) ∧ Below w.heap.size w w' := by
  have HR : Hid (Rd w a l) := hR
  have HV : Hid (Mk.validB 20 l = true) := hv
  have HZ : Hid (Mk.vol l (Mk.best l 98) = 0) := hz
  clear hR hz
  go_enter Try.func5, Try.ntmps5
  go_wp2_with (first | (go_at_call 12; refine (valid_any a cap l _ _ HR.out).mono ?_; rintro e w1 ⟨rfl, hw1⟩; obtain rfl := hw1.symm) | (go_at_call 13; refine (uniform_zero a cap l _ HV.out HR.out HZ.out).mono ?_; rintro e w1 ⟨g, rfl, hg, hb1, hrow⟩))
  have Hb1 : Hid (Below w.heap.size w w1) := hb1
  clear hb1 hrow
  go_loopw [9] (fun i wr => ∃ k : Nat, k ≤ 99 ∧ i = .int .i64 ((k : Int) + 1) ∧ Below w.heap.size w wr) (fun i _ => 100 - (intOf i).toNat)
  case atStart => exact ⟨0, by omega, rfl, Hb1.out⟩
  case round =>
    obtain ⟨k, hk, rfl, hb⟩ := hrel
    have Hb : Hid (Below w.heap.size w wr) := hb
    clear hb
    by_cases hlt : k < 99
    · have hB := (Mk.best_is l 98 (k + 1) (by omega) (by omega)).1
      have hvq : Mk.vol l ((k : Int) + 1) ≤ 0 := by rw [HZ.out] at hB; simpa using hB
      have vb := vol_bd HV.out ((k : Int) + 1)
      clear hB
      have hlt' : ((k : Int) + 1) ≤ 99 := by omega
      go_wp2_with (go_at_call 14; refine (worth_any a cap l _ _ HV.out (HR.out.below Hb.out)).mono ?_; rintro e w2 ⟨rfl, hb2⟩)
      go_roundw
      case rel => exact ⟨k + 1, by omega, by go_num, Hb.out.trans (Below.mono (by assumption) Hb.out.size)⟩
      case measure => simp [intOf]; omega
    · go_wp2
      go_ret
      exact ⟨rfl, Hb.out⟩

set_option maxHeartbeats 1000000 in
theorem best_law_some (b off cap : Nat) (l : List Mk.Ord) (w : World) (hv : Mk.validB 20 l = true) (hR : At w b off l) (hz : Mk.vol l (Mk.best l 98) ≠ 0) :
    Calls Try.prog 5 #[.slice (some ⟨b, off, none⟩) l.length cap] w fun e w' => e = .returned (.bool true) ∧ Below w.heap.size w w' := by
  have HR : Hid (Rd w (some ⟨b, off, none⟩) l) := .inr ⟨b, off, rfl, hR⟩
  have HA : Hid (At w b off l) := hR
  have HV : Hid (Mk.validB 20 l = true) := hv
  have HZ : Hid (Mk.vol l (Mk.best l 98) ≠ 0) := hz
  have HB : Hid (∀ q : Nat, 1 ≤ q → q ≤ 99 → Mk.vol l q ≤ Mk.vol l (Mk.best l 98) ∧ (Mk.vol l q = Mk.vol l (Mk.best l 98) → Mk.gap l (Mk.best l 98) ≤ Mk.gap l q ∧ (Mk.gap l q = Mk.gap l (Mk.best l 98) → Mk.best l 98 ≤ q))) := Mk.best_is l 98
  have bb := Mk.best_bd l 98
  have hp1 : 0 < Mk.best l 98 := by omega
  have hp2 : Mk.best l 98 ≤ 99 := by omega
  clear bb
  have hz' : (Mk.vol l (Mk.best l 98) == 0) = false := by simpa using hz
  clear hR hz
  go_enter Try.func5, Try.ntmps5
  go_wp2_with (first | (go_at_call 12; refine (valid_any _ cap l _ _ HR.out).mono ?_; rintro e w1 ⟨rfl, hw1⟩; obtain rfl := hw1.symm) | (go_at_call 13; refine (uniform_some b off cap l _ HV.out HA.out HZ.out).mono ?_; rintro e w1 ⟨g, rfl, hg, hb1, hrow⟩) | (go_at_call 14; refine (worth_any _ cap l _ _ HV.out (HR.out.below hb1)).mono ?_; rintro e w2 ⟨rfl, hb2⟩))
  have Hb1 : Hid (Below w.heap.size w w2) := hb1.trans (hb2.mono hb1.size)
  clear hb1 hb2 hrow
  go_loopw [9] (fun i wr => ∃ k : Nat, k ≤ 99 ∧ i = .int .i64 ((k : Int) + 1) ∧ Below w.heap.size w wr) (fun i _ => 100 - (intOf i).toNat)
  case atStart => exact ⟨0, by omega, rfl, Hb1.out⟩
  case round =>
    obtain ⟨k, hk, rfl, hb⟩ := hrel
    have Hb : Hid (Below w.heap.size w wr) := hb
    clear hb
    by_cases hlt : k < 99
    · have hB := HB.out (k + 1) (by omega) (by omega)
      rw [show ((k + 1 : Nat) : Int) = (k : Int) + 1 from by omega] at hB
      have hlt' : ((k : Int) + 1) ≤ 99 := by omega
      obtain ⟨hB1, hB2⟩ := hB
      have f0 : ¬ Mk.vol l (Mk.best l 98) < Mk.vol l ((k : Int) + 1) := by omega
      by_cases e1 : Mk.vol l ((k : Int) + 1) = Mk.vol l (Mk.best l 98)
      · have f1 : (Mk.vol l ((k : Int) + 1) == Mk.vol l (Mk.best l 98)) = true := by simpa using e1
        obtain ⟨hB3, hB4⟩ := hB2 e1
        have f2 : ¬ Mk.gap l ((k : Int) + 1) < Mk.gap l (Mk.best l 98) := by omega
        by_cases e2 : Mk.gap l ((k : Int) + 1) = Mk.gap l (Mk.best l 98)
        · have f3 : (Mk.gap l ((k : Int) + 1) == Mk.gap l (Mk.best l 98)) = true := by simpa using e2
          have f4 := hB4 e2
          have f5 : ¬ ((k : Int) + 1 < Mk.best l 98) := by omega
          clear e1 e2 hB1 hB2 hB3 hB4
          go_wp2_with (go_at_call 14; refine (worth_any _ cap l _ _ HV.out (HR.out.below Hb.out)).mono ?_; rintro e w3 ⟨rfl, hb3⟩)
          go_roundw
          case rel => exact ⟨k + 1, by omega, by go_num, Hb.out.trans (Below.mono (by assumption) Hb.out.size)⟩
          case measure => simp [intOf]; omega
        · have f3 : (Mk.gap l ((k : Int) + 1) == Mk.gap l (Mk.best l 98)) = false := by simpa using e2
          clear e1 e2 hB1 hB2 hB3 hB4
          go_wp2_with (go_at_call 14; refine (worth_any _ cap l _ _ HV.out (HR.out.below Hb.out)).mono ?_; rintro e w3 ⟨rfl, hb3⟩)
          go_roundw
          case rel => exact ⟨k + 1, by omega, by go_num, Hb.out.trans (Below.mono (by assumption) Hb.out.size)⟩
          case measure => simp [intOf]; omega
      · have f1 : (Mk.vol l ((k : Int) + 1) == Mk.vol l (Mk.best l 98)) = false := by simpa using e1
        clear e1 hB1 hB2
        go_wp2_with (go_at_call 14; refine (worth_any _ cap l _ _ HV.out (HR.out.below Hb.out)).mono ?_; rintro e w3 ⟨rfl, hb3⟩)
        go_roundw
        case rel => exact ⟨k + 1, by omega, by go_num, Hb.out.trans (Below.mono (by assumption) Hb.out.size)⟩
        case measure => simp [intOf]; omega
    · go_wp2
      go_ret
      exact ⟨rfl, Hb.out⟩

theorem best_law (a : Option Addr) (cap : Nat) (l : List Mk.Ord) (w : World) (hR : Rd w a l) :
    Calls Try.prog 5 #[.slice a l.length cap] w fun e w' => e = .returned (.bool true) ∧ Below w.heap.size w w' := by
  rcases Bool.eq_false_or_eq_true (Mk.validB 20 l) with hv | hv
  · by_cases hz : Mk.vol l (Mk.best l 98) = 0
    · exact best_law_zero a cap l w hv hR hz
    · rcases hR with rfl | ⟨b, off, rfl, hR⟩
      · exact absurd (Mk.vol_nil _) hz
      · exact best_law_some b off cap l w hv hR hz
  · exact best_law_bad a cap l w hv hR

end Go.Proofs.Ytmebcdpdpcpnmaa
