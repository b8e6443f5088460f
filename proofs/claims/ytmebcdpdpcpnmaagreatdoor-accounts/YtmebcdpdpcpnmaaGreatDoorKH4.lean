import Derived.Test.YtmebcdpdpcpnmaaGreatDoorKH3
namespace Go.Proofs.YtmebcdpdpcpnmaaGreatDoor
open Go.RowKit

set_option maxHeartbeats 1000000 in
theorem runiform_bad (a : Option Addr) (cap : Nat) (l : List Mk.Ord) (w : World) (hv : Mk.validB 20 l = false) (hR : Rd w a l) :
    Calls Tryz.prog 42 #[.slice a l.length cap] w fun e w' => e = .returned (.tuple #[.slice none 0 0, .int .i64 0, .int .i64 1]) ∧ Below w.heap.size w w' := by
  have HR : Hid (Rd w a l) := hR
  clear hR
  go_enter Tryz.func42, Tryz.ntmps42
  go_wp2_with (go_at_call 61; refine (are_any a cap l _ HR.out).mono ?_; rintro e w1 ⟨rfl, hw1⟩; obtain rfl := hw1.symm)
  go_ret3
  exact ⟨rfl, Below.refl _ _⟩

set_option maxHeartbeats 1000000 in
theorem runiform_zero (a : Option Addr) (cap : Nat) (l : List Mk.Ord) (w : World) (hv : Mk.validB 20 l = true) (hR : Rd w a l) (hz : Mk.vol l (Mk.best l 98) = 0) :
    Calls Tryz.prog 42 #[.slice a l.length cap] w fun e w' => ∃ g, e = .returned (.tuple #[.slice (some ⟨g, 0, none⟩) l.length l.length, .int .i64 0, .int .i64 0]) ∧ w.heap.size ≤ g ∧ Below w.heap.size w w' ∧ w'.rowIs g 3 l.length (fun _ => .int .i64 0) := by
  have HR : Hid (Rd w a l) := hR
  have HV : Hid (Mk.validB 20 l = true) := hv
  have h12 := (Mk.ok_of_valid hv).1
  have hz' : (Mk.vol l (Mk.best l 98) == 0) = true := by simpa using hz
  have hmk := run_make_row' (P := Tryz.prog) 53 3 (.int .i64 0) 8 Tryz.underlying53 Tryz.infoInt rfl .i64 .i64 l.length (by omega) (by omega)
  clear hR hz
  go_enter Tryz.func42, Tryz.ntmps42
  go_wp2_with fail
  refine (are_any a cap l _ HR.out).mono ?_
  rintro e w1 ⟨rfl, hw1⟩
  obtain rfl := hw1.symm
  go_wp2_with fail
  refine (price_any a cap l _ HV.out (HR.out.below ((Below.refl _ _).alloc (Nat.le_refl _) _))).mono ?_
  rintro e w2 ⟨rfl, hb2⟩
  have HRow : Hid (w2.rowIs w.heap.size 3 l.length (fun _ => .int .i64 0)) := row_below (World.rowIs_made w (.int .i64 0) l.length 3) hb2 (by simp)
  have HB : Hid (Below w.heap.size w w2) := ((Below.refl _ _).alloc (Nat.le_refl _) _).trans (hb2.mono (by simp))
  clear hb2
  go_wp2
  go_ret3
  exact ⟨w.heap.size, rfl, Nat.le_refl _, HB.out, HRow.out⟩

set_option maxRecDepth 100000 in
set_option maxHeartbeats 2000000 in
theorem runiform_some (b off cap : Nat) (l : List Mk.Ord) (p : Int) (hp : p = Mk.best l 98) (w : World) (hv : Mk.validB 20 l = true) (hR : At w b off l) (hz : 1 ≤ Mk.vol l p) :
    Calls Tryz.prog 42 #[.slice (some ⟨b, off, none⟩) l.length cap] w fun e w' => ∃ g, e = .returned (.tuple #[.slice (some ⟨g, 0, none⟩) l.length l.length, .int .i64 p, .int .i64 0]) ∧ w.heap.size ≤ g ∧ Below w.heap.size w w' ∧ w'.rowIs g 3 l.length (fun i => .int .i64 (Mk.getsf l (Mk.dem l p) (Mk.sup l p) p i)) := by
  have HA : Hid (At w b off l) := hR
  have HR : Hid (Rd w (some ⟨b, off, none⟩) l) := .inr ⟨b, off, rfl, hR⟩
  have HV : Hid (Mk.validB 20 l = true) := hv
  have HZ : Hid (1 ≤ Mk.vol l p) := hz
  have h12 := (Mk.ok_of_valid hv).1
  have hz' : (Mk.vol l p == 0) = false := by simp; omega
  have bv := Mk.less_bd (Mk.dem_bd hv p) (Mk.sup_bd hv p)
  have bv' : 0 ≤ Mk.vol l p ∧ Mk.vol l p ≤ 240 := bv
  have hmk := run_make_row' (P := Tryz.prog) 53 3 (.int .i64 0) 8 Tryz.underlying53 Tryz.infoInt rfl .i64 .i64 l.length (by omega) (by omega)
  have hprice := fun (w : World) (hR : Rd w (some ⟨b, off, none⟩) l) => price_any (some ⟨b, off, none⟩) cap l w hv hR
  rw [← hp] at hprice
  have HPr : Hid (∀ (w : World), Rd w (some ⟨b, off, none⟩) l → Calls Tryz.prog 62 #[.slice (some ⟨b, off, none⟩) l.length cap] w fun e w' => e = .returned (.tuple #[.int .i64 p, .int .i64 (Mk.vol l p)]) ∧ Below w.heap.size w w') := hprice
  clear hR hz hp hprice bv
  go_enter Tryz.func42, Tryz.ntmps42
  go_wp2_with fail
  refine (are_any _ cap l _ HR.out).mono ?_
  rintro e w1 ⟨rfl, hw1⟩
  obtain rfl := hw1.symm
  go_wp2_with fail
  refine (HPr.out _ (HR.out.below ((Below.refl _ _).alloc (Nat.le_refl _) _))).mono ?_
  rintro e w2 ⟨rfl, hb2⟩
  have HRow : Hid (w2.rowIs w.heap.size 3 l.length (fun _ => .int .i64 0)) := row_below (World.rowIs_made w (.int .i64 0) l.length 3) hb2 (by simp)
  have HB : Hid (Below w.heap.size w w2) := ((Below.refl _ _).alloc (Nat.le_refl _) _).trans (hb2.mono (by simp))
  clear hb2 hmk
  go_wp2
  go_loopw [9] (fun i wr => ∃ k : Nat, k ≤ l.length ∧ i = .int .i64 k ∧ wr.rowIs w.heap.size 3 l.length (fun j => .int .i64 (if j < k then Mk.getsf l (Mk.dem l p) (Mk.sup l p) p j else 0)) ∧ Below w.heap.size w wr) (fun i _ => l.length - (intOf i).toNat)
  case atStart => exact ⟨0, Nat.zero_le _, rfl, World.rowIs.congr HRow.out (fun j _ => by simp), HB.out⟩
  case round =>
    clear HRow HB
    obtain ⟨k, hk, rfl, hrow, hb⟩ := hrel
    have Hb : Hid (Below w.heap.size w wr) := hb
    have HRw : Hid (wr.rowIs w.heap.size 3 l.length (fun j => .int .i64 (if j < k then Mk.getsf l (Mk.dem l p) (Mk.sup l p) p j else 0))) := hrow
    clear hb hrow
    have HAr : Hid (At wr b off l) := HA.out.below Hb.out
    by_cases hlt : k < l.length
    · obtain ⟨c0, c1, c2⟩ := HAr.out k hlt
      have hbl := blk_lt c0
      have hlt' : (k : Int) < (l.length : Int) := by omega
      rcases Bool.eq_false_or_eq_true (Mk.willB l[k].sell l[k].price p) with hw | hw
      · have HG : Hid (Mk.rshare l p (Mk.vol l p) (Mk.side l l[k].sell p) k = Mk.getsf l (Mk.dem l p) (Mk.sup l p) p k) := by
          have := Mk.rshare_is HZ.out (i := k) (by rw [Mk.getD_at hlt]; exact hw)
          rw [Mk.getD_at hlt, ← Mk.side_is] at this
          exact this
        have ht : 1 ≤ Mk.side l l[k].sell p := by
          rw [Mk.side_is]
          have := Mk.one_le HZ.out
          unfold Mk.sideT
          split <;> omega
        go_wp2_with (go_at_call 63; refine (rwilling_any _ _ _ _ _).mono ?_; rintro e w' ⟨rfl, rfl⟩)
        refine (rsum_some b off cap l l[k].sell p _ HV.out (HAr.out.below ((Below.refl _ _).alloc (Nat.le_refl _) _))).mono ?_
        rintro e w3 ⟨rfl, hb3⟩
        have HB3 : Hid (Below wr.heap.size wr w3) := ((Below.refl _ _).alloc (Nat.le_refl _) _).trans (hb3.mono (by simp))
        clear hb3
        go_wp2_with fail
        refine (rshare_some b off cap l k p _ _ _ hlt HV.out bv' ht (HAr.out.below HB3.out)).mono ?_
        rintro e w4 ⟨rfl, hb4⟩
        have HB4 : Hid (Below wr.heap.size wr w4) := HB3.out.trans (hb4.mono HB3.out.size)
        clear hb4
        have HR4 := row_below HRw.out HB4.out (World.rowIs.lt HRw.out)
        have gc := World.rowIs.cell HR4 hlt
        have gf := World.rowIs.frozen HR4 k
        have HR5 : Hid (w4.rowIs w.heap.size 3 l.length (fun j => .int .i64 (if j < k then Mk.getsf l (Mk.dem l p) (Mk.sup l p) p j else 0))) := HR4
        clear HR4
        simp only [Nat.lt_irrefl, if_false] at gc
        go_wp2
        go_roundw
        case rel =>
          refine ⟨k + 1, by omega, by go_num, World.rowIs.congr (World.rowIs.set HR5.out k _) (fun j _ => ?_), (Hb.out.trans (HB4.out.mono Hb.out.size)).setCell (Nat.le_refl _) _⟩
          have := Mk.step_on (G := Mk.getsf l (Mk.dem l p) (Mk.sup l p) p) (k := k) HG.out.symm j
          rw [← this]
          by_cases e : j = k <;> simp [e]
        case measure => simp [intOf]; omega
      · have hf0 := Mk.unwilling HZ.out hlt hw
        have HF : Hid (Mk.getsf l (Mk.dem l p) (Mk.sup l p) p k = 0) := hf0
        clear hf0
        go_wp2_with (go_at_call 63; refine (rwilling_any _ _ _ _ _).mono ?_; rintro e w' ⟨rfl, rfl⟩)
        go_roundw
        case rel => exact ⟨k + 1, by omega, by go_num, World.rowIs.congr (World.rowIs.alloc HRw.out _) (fun j _ => by rw [Mk.step_off (G := Mk.getsf l (Mk.dem l p) (Mk.sup l p) p) HF.out]), Hb.out.alloc Hb.out.size _⟩
        case measure => simp [intOf]; omega
    · obtain rfl : k = l.length := by omega
      go_wp2
      go_ret3
      exact ⟨w.heap.size, rfl, Nat.le_refl _, Hb.out, World.rowIs.congr HRw.out (fun j hj => by rw [if_pos hj])⟩

theorem runiform_any (a : Option Addr) (cap : Nat) (l : List Mk.Ord) (w : World) (hv : Mk.validB 20 l = true) (hR : Rd w a l) :
    Calls Tryz.prog 42 #[.slice a l.length cap] w fun e w' => ∃ g, e = .returned (.tuple #[.slice (some ⟨g, 0, none⟩) l.length l.length, .int .i64 (Mk.price l), .int .i64 0]) ∧ w.heap.size ≤ g ∧ Below w.heap.size w w' ∧ w'.rowIs g 3 l.length (fun i => .int .i64 (Mk.uni l i)) := by
  by_cases hz : Mk.vol l (Mk.best l 98) = 0
  · unfold Mk.price Mk.uni
    simp only [hz, if_true]
    exact runiform_zero a cap l w hv hR hz
  · rcases hR with rfl | ⟨b, off, rfl, hR⟩
    · exact absurd (Mk.vol_nil _) hz
    · unfold Mk.price Mk.uni
      simp only [hz, if_false]
      refine runiform_some b off cap l _ rfl w hv hR ?_
      have := (Mk.less_bd (Mk.dem_bd hv (Mk.best l 98)) (Mk.sup_bd hv (Mk.best l 98))).1
      have h2 : 0 ≤ Mk.vol l (Mk.best l 98) := this
      omega

end Go.Proofs.YtmebcdpdpcpnmaaGreatDoor
