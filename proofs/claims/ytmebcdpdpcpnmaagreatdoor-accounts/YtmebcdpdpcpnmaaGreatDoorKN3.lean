import Derived.Test.YtmebcdpdpcpnmaaGreatDoorJ4
import Derived.Test.YtmebcdpdpcpnmaaGreatDoorJ3
import Derived.Test.YtmebcdpdpcpnmaaGreatDoorKN2
namespace Go.Proofs.YtmebcdpdpcpnmaaGreatDoor
open Go.RowKit

set_option maxRecDepth 100000 in
set_option maxHeartbeats 2000000 in
theorem lmcafee_bad (a : Option Addr) (cap : Nat) (l : List Mk.Ord) (w : World) (hn : l.length ≤ 1048576) (hv : Mk.validB 1 l = false) (hR : Rd w a l) :
    Calls Tryz.prog 26 #[.slice a l.length cap] w fun e w' => e = .returned (.tuple #[.slice none 0 0, .bool true]) ∧ Below w.heap.size w w' := by
  have HR : Hid (Rd w a l) := hR
  have HV : Hid (Mk.validB 1 l = false) := hv
  clear hR hv
  have hnil := fun (w : World) (a : Option Addr) (n c : Nat) => Lib.run_eql_slice_nil (P := Tryz.prog) w 53 3 a n c 0 0 Tryz.underlying53
  go_enter Tryz.func26, Tryz.ntmps26
  go_wp2_with fail
  refine (roomy_any a cap l _ hn HR.out).mono ?_
  rintro e w1 ⟨rfl, hb1, hO1⟩
  have HB1 : Hid (Below w.heap.size w w1) := hb1
  have HO1 : Hid (Own w1 w.heap.size (l ++ [o7, o8])) := hO1
  clear hb1 hO1
  go_wp2_with fail
  refine (mcafee_bad _ (l.length + 2) l _ HV.out (.inr ⟨_, _, rfl, HO1.out.head⟩)).mono ?_
  rintro e w2 ⟨rfl, hb2⟩
  have HB2 : Hid (Below w.heap.size w w2) := HB1.out.trans (hb2.mono HB1.out.size)
  have HO2 : Hid (Own w2 w.heap.size (l ++ [o7, o8])) := HO1.out.below hb2 HO1.out.lt
  clear hb2
  go_wp2_with fail
  refine (still_any w.heap.size a cap l _ hn HO2.out (HR.out.below HB2.out)).mono ?_
  rintro e w3 ⟨rfl, m3, hw3⟩
  have HB3 : Hid (Below w.heap.size w w3) := by rw [hw3]; exact below_drewN HB2.out _
  clear hw3
  go_wp2_with fail
  refine (theirs_any a cap l _ hn (HR.out.below HB3.out)).mono ?_
  rintro e w4 ⟨a', cap', rfl, hR4, hb4⟩
  have HB4 : Hid (Below w.heap.size w w4) := HB3.out.trans (hb4.mono HB3.out.size)
  have HR4 : Hid (Rd w4 a' l) := hR4
  clear hb4 hR4
  go_wp2_with fail
  refine (rmcafee_bad a' cap' l _ HV.out HR4.out).mono ?_
  rintro e w5 ⟨rfl, hb5⟩
  have HB5 : Hid (Below w.heap.size w w5) := HB4.out.trans (hb5.mono HB4.out.size)
  clear hb5
  go_wp2_with fail
  refine (same_nil _).mono ?_
  rintro e w6 ⟨rfl, m6, hw6⟩
  have HB6 : Hid (Below w.heap.size w w6) := by rw [hw6]; exact below_drewN HB5.out _
  clear hw6
  go_wp2_with (go_at_call 20; refine (num_any _ _).mono ?_; rintro e w7 ⟨rfl, hw7⟩; obtain rfl := hw7.symm)
  go_ret2
  exact ⟨rfl, HB6.out⟩

set_option maxRecDepth 100000 in
set_option maxHeartbeats 2000000 in
theorem lmcafee_ok (a : Option Addr) (cap : Nat) (l : List Mk.Ord) (w : World) (hv : Mk.validB 1 l = true) (hR : Rd w a l) :
    Calls Tryz.prog 26 #[.slice a l.length cap] w fun e w' => ∃ g, e = .returned (.tuple #[.slice (some ⟨g, 0, none⟩) l.length l.length, .bool true]) ∧ w.heap.size ≤ g ∧ Below w.heap.size w w' ∧ w'.rowIs g 3 l.length (fun i => .int .i64 (Mk.mcF l i)) := by
  have HR : Hid (Rd w a l) := hR
  have HV : Hid (Mk.validB 1 l = true) := hv
  have h12 := (Mk.ok_of_valid hv).1
  have hn : l.length ≤ 1048576 := by omega
  clear hR hv
  go_enter Tryz.func26, Tryz.ntmps26
  go_wp2_with fail
  refine (roomy_any a cap l _ hn HR.out).mono ?_
  rintro e w1 ⟨rfl, hb1, hO1⟩
  have HB1 : Hid (Below w.heap.size w w1) := hb1
  have HO1 : Hid (Own w1 w.heap.size (l ++ [o7, o8])) := hO1
  clear hb1 hO1
  go_wp2_with fail
  refine (mcafee_any _ (l.length + 2) l _ HV.out (.inr ⟨_, _, rfl, HO1.out.head⟩)).mono ?_
  rintro e w2 ⟨g1, rfl, hg1, hb2, hrow2⟩
  have HB2 : Hid (Below w.heap.size w w2) := HB1.out.trans (hb2.mono HB1.out.size)
  have HO2 : Hid (Own w2 w.heap.size (l ++ [o7, o8])) := HO1.out.below hb2 HO1.out.lt
  have HG1 : Hid (w.heap.size ≤ g1) := Nat.le_trans HB1.out.size hg1
  have HW2 : Hid (w2.rowIs g1 3 l.length (fun i => .int .i64 (Mk.mcF l i))) := hrow2
  clear hb2 hrow2 hg1
  go_wp2_with fail
  refine (still_any w.heap.size a cap l _ hn HO2.out (HR.out.below HB2.out)).mono ?_
  rintro e w3 ⟨rfl, m3, hw3⟩
  have hb3 : Below w2.heap.size w2 w3 := by rw [hw3]; exact below_drewN (Below.refl _ _) _
  have HB3 : Hid (Below w.heap.size w w3) := HB2.out.trans (hb3.mono HB2.out.size)
  have HW3 : Hid (w3.rowIs g1 3 l.length (fun i => .int .i64 (Mk.mcF l i))) := row_below HW2.out hb3 (World.rowIs.lt HW2.out)
  clear hw3 hb3
  go_wp2_with fail
  refine (theirs_any a cap l _ hn (HR.out.below HB3.out)).mono ?_
  rintro e w4 ⟨a', cap', rfl, hR4, hb4⟩
  have HB4 : Hid (Below w.heap.size w w4) := HB3.out.trans (hb4.mono HB3.out.size)
  have HR4 : Hid (Rd w4 a' l) := hR4
  have HW4 : Hid (w4.rowIs g1 3 l.length (fun i => .int .i64 (Mk.mcF l i))) := row_below HW3.out hb4 (World.rowIs.lt HW3.out)
  clear hb4 hR4
  go_wp2_with fail
  refine (rmcafee_any a' cap' l _ HV.out HR4.out).mono ?_
  rintro e w5 ⟨g2, rfl, hg2, hb5, hrow5⟩
  have HB5 : Hid (Below w.heap.size w w5) := HB4.out.trans (hb5.mono HB4.out.size)
  have HW5 : Hid (w5.rowIs g1 3 l.length (fun i => .int .i64 (Mk.mcF l i))) := row_below HW4.out hb5 (World.rowIs.lt HW4.out)
  have HX5 : Hid (w5.rowIs g2 3 l.length (fun i => .int .i64 (Mk.mcF l i))) := hrow5
  clear hb5 hrow5 hg2
  go_wp2_with fail
  refine (same_some g1 g2 l.length (Mk.mcF l) _ hn HW5.out HX5.out).mono ?_
  rintro e w6 ⟨rfl, m6, hw6⟩
  have hb6 : Below w5.heap.size w5 w6 := by rw [hw6]; exact below_drewN (Below.refl _ _) _
  have HB6 : Hid (Below w.heap.size w w6) := HB5.out.trans (hb6.mono HB5.out.size)
  have HW6 : Hid (w6.rowIs g1 3 l.length (fun i => .int .i64 (Mk.mcF l i))) := row_below HW5.out hb6 (World.rowIs.lt HW5.out)
  clear hw6 hb6
  go_wp2_with (go_at_call 20; refine (num_any _ _).mono ?_; rintro e w7 ⟨rfl, hw7⟩; obtain rfl := hw7.symm)
  go_ret2
  exact ⟨g1, rfl, HG1.out, HB6.out, HW6.out⟩

end Go.Proofs.YtmebcdpdpcpnmaaGreatDoor
