import Derived.Test.YtmebcdpdpcpnmaaGreatDoorJ27
import Derived.Test.YtmebcdpdpcpnmaaGreatDoorJ14
import Derived.Test.YtmebcdpdpcpnmaaGreatDoorJ7
import Derived.Test.YtmebcdpdpcpnmaaGreatDoorJ5
import Derived.Test.YtmebcdpdpcpnmaaGreatDoorJ16
import Derived.Test.YtmebcdpdpcpnmaaGreatDoorJ19
namespace Go.Proofs.YtmebcdpdpcpnmaaGreatDoor
open Go.RowKit

set_option maxRecDepth 100000 in
set_option maxHeartbeats 2000000 in
theorem carry_buy (p : Nat) (vb : Nat → Value) (M : Mk.Mkt) (who : Nat) (r : Int) (v : Nat) (a pr q o : Int) (m : Bool) (w : World) (hM : M.Fine) (hP : PM w p vb M) (hw : who < 4) (hv : v < 2) (bp : 1 ≤ pr ∧ pr ≤ 99) (bq : 1 ≤ q ∧ q ≤ 20) (hcm : 0 ≤ M.cm v ∧ M.cm v ≤ 12) (hT : Tab w) :
    Calls Tryz.prog 78 #[.pointer (some ⟨p, 0, none⟩), rqA who r ⟨#[98, 117, 121]⟩ v a pr q o m] w fun e w' => PDoT p vb (Mk.orderM M v who ⟨false, pr, q⟩) w e w' := by
  have HM : Hid M.Fine := hM
  have HB1 : Hid (Below w.heap.size w (w.alloc (rqO who r ⟨#[98, 117, 121]⟩ v a pr q o m))) := (Below.refl _ _).alloc (Nat.le_refl _) _
  have HP1 : Hid (PM (w.alloc (rqO who r ⟨#[98, 117, 121]⟩ v a pr q o m)) p vb M) := hP.below HB1.out
  have HT1 : Hid (Tab (w.alloc (rqO who r ⟨#[98, 117, 121]⟩ v a pr q o m))) := hT.next HB1.out
  clear hM hP hT
  go_enter Tryz.func78, Tryz.ntmps78
  go_wp2_with fail
  refine (pplace_any p vb M who r ⟨#[98, 117, 121]⟩ v a pr q o m false _ HM.out HP1.out hw hv bp bq hcm HT1.out).mono ?_
  intro e w2 hD
  have hD' := pdoT_next HB1.out hD
  obtain rfl := hD'.1
  have HD : Hid (PDoT p vb (Mk.orderM M v who ⟨false, pr, q⟩) w (.returned (.tuple #[.string (Mk.orderM M v who ⟨false, pr, q⟩).1, .int .i64 (Mk.orderM M v who ⟨false, pr, q⟩).2.1])) w2) := hD'
  clear hD hD'
  go_wp2_with fail
  refine bodyPost_ret (v := .tuple #[.string (Mk.orderM M v who ⟨false, pr, q⟩).1, .int .i64 (Mk.orderM M v who ⟨false, pr, q⟩).2.1]) ?_ rfl HD.out
  simp [results, Tryz.results78, go_sem]

set_option maxRecDepth 100000 in
set_option maxHeartbeats 2000000 in
theorem carry_sell (p : Nat) (vb : Nat → Value) (M : Mk.Mkt) (who : Nat) (r : Int) (v : Nat) (a pr q o : Int) (m : Bool) (w : World) (hM : M.Fine) (hP : PM w p vb M) (hw : who < 4) (hv : v < 2) (bp : 1 ≤ pr ∧ pr ≤ 99) (bq : 1 ≤ q ∧ q ≤ 20) (hcm : 0 ≤ M.cm v ∧ M.cm v ≤ 12) (hT : Tab w) :
    Calls Tryz.prog 78 #[.pointer (some ⟨p, 0, none⟩), rqA who r ⟨#[115, 101, 108, 108]⟩ v a pr q o m] w fun e w' => PDoT p vb (Mk.orderM M v who ⟨true, pr, q⟩) w e w' := by
  have HM : Hid M.Fine := hM
  have HB1 : Hid (Below w.heap.size w (w.alloc (rqO who r ⟨#[115, 101, 108, 108]⟩ v a pr q o m))) := (Below.refl _ _).alloc (Nat.le_refl _) _
  have HP1 : Hid (PM (w.alloc (rqO who r ⟨#[115, 101, 108, 108]⟩ v a pr q o m)) p vb M) := hP.below HB1.out
  have HT1 : Hid (Tab (w.alloc (rqO who r ⟨#[115, 101, 108, 108]⟩ v a pr q o m))) := hT.next HB1.out
  clear hM hP hT
  go_enter Tryz.func78, Tryz.ntmps78
  go_wp2_with fail
  refine (pplace_any p vb M who r ⟨#[115, 101, 108, 108]⟩ v a pr q o m true _ HM.out HP1.out hw hv bp bq hcm HT1.out).mono ?_
  intro e w2 hD
  have hD' := pdoT_next HB1.out hD
  obtain rfl := hD'.1
  have HD : Hid (PDoT p vb (Mk.orderM M v who ⟨true, pr, q⟩) w (.returned (.tuple #[.string (Mk.orderM M v who ⟨true, pr, q⟩).1, .int .i64 (Mk.orderM M v who ⟨true, pr, q⟩).2.1])) w2) := hD'
  clear hD hD'
  go_wp2_with fail
  refine bodyPost_ret (v := .tuple #[.string (Mk.orderM M v who ⟨true, pr, q⟩).1, .int .i64 (Mk.orderM M v who ⟨true, pr, q⟩).2.1]) ?_ rfl HD.out
  simp [results, Tryz.results78, go_sem]

set_option maxRecDepth 100000 in
set_option maxHeartbeats 2000000 in
theorem carry_drop (p : Nat) (vb : Nat → Value) (M : Mk.Mkt) (who : Nat) (r : Int) (v : Nat) (a pr q n : Int) (m : Bool) (w : World) (hM : Mk.Sound M) (hP : PM w p vb M) (hw : who < 4) (hv : v < 2) :
    Calls Tryz.prog 78 #[.pointer (some ⟨p, 0, none⟩), rqA who r ⟨#[100, 114, 111, 112]⟩ v a pr q n m] w fun e w' => PDoT p vb (⟨#[]⟩, (Mk.dropM M v who n).1, (Mk.dropM M v who n).2) w e w' := by
  have HM : Hid (Mk.Sound M) := hM
  have HB1 : Hid (Below w.heap.size w (w.alloc (rqO who r ⟨#[100, 114, 111, 112]⟩ v a pr q n m))) := (Below.refl _ _).alloc (Nat.le_refl _) _
  have HP1 : Hid (PM (w.alloc (rqO who r ⟨#[100, 114, 111, 112]⟩ v a pr q n m)) p vb M) := hP.below HB1.out
  clear hM hP
  go_enter Tryz.func78, Tryz.ntmps78
  go_wp2_with fail
  refine (pdrop_any p vb M who r ⟨#[100, 114, 111, 112]⟩ v a pr q n m _ HM.out.fine HP1.out hw hv (hit_same (HM.out.inc v hv))).mono ?_
  rintro e w2 ⟨rfl, hD⟩
  have HD : Hid (PDoT p vb (⟨#[]⟩, (Mk.dropM M v who n).1, (Mk.dropM M v who n).2) w (.returned (.tuple #[.string ⟨#[]⟩, .int .i64 (Mk.dropM M v who n).1])) w2) := pdoT_next HB1.out ⟨rfl, hD⟩
  clear hD
  go_wp2_with fail
  refine bodyPost_ret (v := .tuple #[.string ⟨#[]⟩, .int .i64 (Mk.dropM M v who n).1]) ?_ rfl HD.out
  simp [results, Tryz.results78, go_sem]

end Go.Proofs.YtmebcdpdpcpnmaaGreatDoor

namespace Go.Proofs.YtmebcdpdpcpnmaaGreatDoor
open Go.RowKit

set_option maxRecDepth 100000 in
set_option maxHeartbeats 2000000 in
theorem luniform_bad (a : Option Addr) (cap : Nat) (l : List Mk.Ord) (w : World) (hn : l.length ≤ 1048576) (hv : Mk.validB 20 l = false) (hR : Rd w a l) :
    Calls Tryz.prog 24 #[.slice a l.length cap] w fun e w' => e = .returned (.tuple #[.slice none 0 0, .bool true]) ∧ Below w.heap.size w w' := by
  have HR : Hid (Rd w a l) := hR
  have HV : Hid (Mk.validB 20 l = false) := hv
  clear hR hv
  have hnil := fun (w : World) (a : Option Addr) (n c : Nat) => Lib.run_eql_slice_nil (P := Tryz.prog) w 53 3 a n c 0 0 Tryz.underlying53
  go_enter Tryz.func24, Tryz.ntmps24
  go_wp2_with fail
  refine (roomy_any a cap l _ hn HR.out).mono ?_
  rintro e w1 ⟨rfl, hb1, hO1⟩
  have HB1 : Hid (Below w.heap.size w w1) := hb1
  have HO1 : Hid (Own w1 w.heap.size (l ++ [o7, o8])) := hO1
  clear hb1 hO1
  go_wp2_with fail
  refine (uniform_bad _ (l.length + 2) l _ HV.out (.inr ⟨_, _, rfl, HO1.out.head⟩)).mono ?_
  rintro e w2 ⟨rfl, hb2⟩
  have HB2 : Hid (Below w.heap.size w w2) := HB1.out.trans (hb2.mono HB1.out.size)
  have HO2 : Hid (Own w2 w.heap.size (l ++ [o7, o8])) := HO1.out.below hb2 HO1.out.lt
  clear hb2
  go_wp2_with fail
  refine (still_any w.heap.size a cap l _ hn HO2.out (HR.out.below HB2.out)).mono ?_
  rintro e w3 ⟨rfl, m3, hw3⟩
  have HB3 : Hid (Below w.heap.size w w3) := by rw [hw3]; exact below_drewN HB2.out _
  clear hw3
  go_wp2_with fail
  refine (theirs_any a cap l _ hn (HR.out.below HB3.out)).mono ?_
  rintro e w4 ⟨a', cap', rfl, hR4, hb4⟩
  have HB4 : Hid (Below w.heap.size w w4) := HB3.out.trans (hb4.mono HB3.out.size)
  have HR4 : Hid (Rd w4 a' l) := hR4
  clear hb4 hR4
  go_wp2_with fail
  refine (runiform_bad a' cap' l _ HV.out HR4.out).mono ?_
  rintro e w5 ⟨rfl, hb5⟩
  have HB5 : Hid (Below w.heap.size w w5) := HB4.out.trans (hb5.mono HB4.out.size)
  clear hb5
  go_wp2_with fail
  refine (same_nil _).mono ?_
  rintro e w6 ⟨rfl, m6, hw6⟩
  have HB6 : Hid (Below w.heap.size w w6) := by rw [hw6]; exact below_drewN HB5.out _
  clear hw6
  go_wp2_with (go_at_call 20; refine (num_any _ _).mono ?_; rintro e w7 ⟨rfl, hw7⟩; obtain rfl := hw7.symm)
  go_ret2
  exact ⟨rfl, HB6.out⟩

set_option maxRecDepth 100000 in
set_option maxHeartbeats 2000000 in
theorem luniform_ok (a : Option Addr) (cap : Nat) (l : List Mk.Ord) (w : World) (hv : Mk.validB 20 l = true) (hR : Rd w a l) :
    Calls Tryz.prog 24 #[.slice a l.length cap] w fun e w' => ∃ g, e = .returned (.tuple #[.slice (some ⟨g, 0, none⟩) l.length l.length, .bool true]) ∧ w.heap.size ≤ g ∧ Below w.heap.size w w' ∧ w'.rowIs g 3 l.length (fun i => .int .i64 (Mk.uni l i)) := by
  have HR : Hid (Rd w a l) := hR
  have HV : Hid (Mk.validB 20 l = true) := hv
  have h12 := (Mk.ok_of_valid hv).1
  have hn : l.length ≤ 1048576 := by omega
  clear hR hv
  go_enter Tryz.func24, Tryz.ntmps24
  go_wp2_with fail
  refine (roomy_any a cap l _ hn HR.out).mono ?_
  rintro e w1 ⟨rfl, hb1, hO1⟩
  have HB1 : Hid (Below w.heap.size w w1) := hb1
  have HO1 : Hid (Own w1 w.heap.size (l ++ [o7, o8])) := hO1
  clear hb1 hO1
  go_wp2_with fail
  refine (uniform_any _ (l.length + 2) l _ HV.out (.inr ⟨_, _, rfl, HO1.out.head⟩)).mono ?_
  rintro e w2 ⟨g1, rfl, hg1, hb2, hrow2⟩
  have HB2 : Hid (Below w.heap.size w w2) := HB1.out.trans (hb2.mono HB1.out.size)
  have HO2 : Hid (Own w2 w.heap.size (l ++ [o7, o8])) := HO1.out.below hb2 HO1.out.lt
  have HG1 : Hid (w.heap.size ≤ g1) := Nat.le_trans HB1.out.size hg1
  have HW2 : Hid (w2.rowIs g1 3 l.length (fun i => .int .i64 (Mk.uni l i))) := hrow2
  clear hb2 hrow2 hg1
  go_wp2_with fail
  refine (still_any w.heap.size a cap l _ hn HO2.out (HR.out.below HB2.out)).mono ?_
  rintro e w3 ⟨rfl, m3, hw3⟩
  have hb3 : Below w2.heap.size w2 w3 := by rw [hw3]; exact below_drewN (Below.refl _ _) _
  have HB3 : Hid (Below w.heap.size w w3) := HB2.out.trans (hb3.mono HB2.out.size)
  have HW3 : Hid (w3.rowIs g1 3 l.length (fun i => .int .i64 (Mk.uni l i))) := row_below HW2.out hb3 (World.rowIs.lt HW2.out)
  clear hw3 hb3
  go_wp2_with fail
  refine (theirs_any a cap l _ hn (HR.out.below HB3.out)).mono ?_
  rintro e w4 ⟨a', cap', rfl, hR4, hb4⟩
  have HB4 : Hid (Below w.heap.size w w4) := HB3.out.trans (hb4.mono HB3.out.size)
  have HR4 : Hid (Rd w4 a' l) := hR4
  have HW4 : Hid (w4.rowIs g1 3 l.length (fun i => .int .i64 (Mk.uni l i))) := row_below HW3.out hb4 (World.rowIs.lt HW3.out)
  clear hb4 hR4
  go_wp2_with fail
  refine (runiform_any a' cap' l _ HV.out HR4.out).mono ?_
  rintro e w5 ⟨g2, rfl, hg2, hb5, hrow5⟩
  have HB5 : Hid (Below w.heap.size w w5) := HB4.out.trans (hb5.mono HB4.out.size)
  have HW5 : Hid (w5.rowIs g1 3 l.length (fun i => .int .i64 (Mk.uni l i))) := row_below HW4.out hb5 (World.rowIs.lt HW4.out)
  have HX5 : Hid (w5.rowIs g2 3 l.length (fun i => .int .i64 (Mk.uni l i))) := hrow5
  clear hb5 hrow5 hg2
  go_wp2_with fail
  refine (same_some g1 g2 l.length (Mk.uni l) _ hn HW5.out HX5.out).mono ?_
  rintro e w6 ⟨rfl, m6, hw6⟩
  have hb6 : Below w5.heap.size w5 w6 := by rw [hw6]; exact below_drewN (Below.refl _ _) _
  have HB6 : Hid (Below w.heap.size w w6) := HB5.out.trans (hb6.mono HB5.out.size)
  have HW6 : Hid (w6.rowIs g1 3 l.length (fun i => .int .i64 (Mk.uni l i))) := row_below HW5.out hb6 (World.rowIs.lt HW5.out)
  clear hw6 hb6
  go_wp2_with (go_at_call 20; refine (num_any _ _).mono ?_; rintro e w7 ⟨rfl, hw7⟩; obtain rfl := hw7.symm)
  go_ret2
  exact ⟨g1, rfl, HG1.out, HB6.out, HW6.out⟩

end Go.Proofs.YtmebcdpdpcpnmaaGreatDoor

namespace Go.Proofs.YtmebcdpdpcpnmaaGreatDoor
open Go.RowKit

set_option maxRecDepth 100000 in
set_option maxHeartbeats 2000000 in
theorem lmcafee_bad (a : Option Addr) (cap : Nat) (l : List Mk.Ord) (w : World) (hn : l.length ≤ 1048576) (hv : Mk.validB 1 l = false) (hR : Rd w a l) :
    Calls Tryz.prog 26 #[.slice a l.length cap] w fun e w' => e = .returned (.tuple #[.slice none 0 0, .bool true]) ∧ Below w.heap.size w w' := by
  have HR : Hid (Rd w a l) := hR
  have HV : Hid (Mk.validB 1 l = false) := hv
  clear hR hv
  have hnil := fun (w : World) (a : Option Addr) (n c : Nat) => Lib.run_eql_slice_nil (P := Tryz.prog) w 53 3 a n c 0 0 Tryz.underlying53
  go_enter Tryz.func26, Tryz.ntmps26
  go_wp2_with fail
  refine (roomy_any a cap l _ hn HR.out).mono ?_
  rintro e w1 ⟨rfl, hb1, hO1⟩
  have HB1 : Hid (Below w.heap.size w w1) := hb1
  have HO1 : Hid (Own w1 w.heap.size (l ++ [o7, o8])) := hO1
  clear hb1 hO1
  go_wp2_with fail
  refine (mcafee_bad _ (l.length + 2) l _ HV.out (.inr ⟨_, _, rfl, HO1.out.head⟩)).mono ?_
  rintro e w2 ⟨rfl, hb2⟩
  have HB2 : Hid (Below w.heap.size w w2) := HB1.out.trans (hb2.mono HB1.out.size)
  have HO2 : Hid (Own w2 w.heap.size (l ++ [o7, o8])) := HO1.out.below hb2 HO1.out.lt
  clear hb2
  go_wp2_with fail
  refine (still_any w.heap.size a cap l _ hn HO2.out (HR.out.below HB2.out)).mono ?_
  rintro e w3 ⟨rfl, m3, hw3⟩
  have HB3 : Hid (Below w.heap.size w w3) := by rw [hw3]; exact below_drewN HB2.out _
  clear hw3
  go_wp2_with fail
  refine (theirs_any a cap l _ hn (HR.out.below HB3.out)).mono ?_
  rintro e w4 ⟨a', cap', rfl, hR4, hb4⟩
  have HB4 : Hid (Below w.heap.size w w4) := HB3.out.trans (hb4.mono HB3.out.size)
  have HR4 : Hid (Rd w4 a' l) := hR4
  clear hb4 hR4
  go_wp2_with fail
  refine (rmcafee_bad a' cap' l _ HV.out HR4.out).mono ?_
  rintro e w5 ⟨rfl, hb5⟩
  have HB5 : Hid (Below w.heap.size w w5) := HB4.out.trans (hb5.mono HB4.out.size)
  clear hb5
  go_wp2_with fail
  refine (same_nil _).mono ?_
  rintro e w6 ⟨rfl, m6, hw6⟩
  have HB6 : Hid (Below w.heap.size w w6) := by rw [hw6]; exact below_drewN HB5.out _
  clear hw6
  go_wp2_with (go_at_call 20; refine (num_any _ _).mono ?_; rintro e w7 ⟨rfl, hw7⟩; obtain rfl := hw7.symm)
  go_ret2
  exact ⟨rfl, HB6.out⟩

set_option maxRecDepth 100000 in
set_option maxHeartbeats 2000000 in
theorem lmcafee_ok (a : Option Addr) (cap : Nat) (l : List Mk.Ord) (w : World) (hv : Mk.validB 1 l = true) (hR : Rd w a l) :
    Calls Tryz.prog 26 #[.slice a l.length cap] w fun e w' => ∃ g, e = .returned (.tuple #[.slice (some ⟨g, 0, none⟩) l.length l.length, .bool true]) ∧ w.heap.size ≤ g ∧ Below w.heap.size w w' ∧ w'.rowIs g 3 l.length (fun i => .int .i64 (Mk.mcF l i)) := by
  have HR : Hid (Rd w a l) := hR
  have HV : Hid (Mk.validB 1 l = true) := hv
  have h12 := (Mk.ok_of_valid hv).1
  have hn : l.length ≤ 1048576 := by omega
  clear hR hv
  go_enter Tryz.func26, Tryz.ntmps26
  go_wp2_with fail
  refine (roomy_any a cap l _ hn HR.out).mono ?_
  rintro e w1 ⟨rfl, hb1, hO1⟩
  have HB1 : Hid (Below w.heap.size w w1) := hb1
  have HO1 : Hid (Own w1 w.heap.size (l ++ [o7, o8])) := hO1
  clear hb1 hO1
  go_wp2_with fail
  refine (mcafee_any _ (l.length + 2) l _ HV.out (.inr ⟨_, _, rfl, HO1.out.head⟩)).mono ?_
  rintro e w2 ⟨g1, rfl, hg1, hb2, hrow2⟩
  have HB2 : Hid (Below w.heap.size w w2) := HB1.out.trans (hb2.mono HB1.out.size)
  have HO2 : Hid (Own w2 w.heap.size (l ++ [o7, o8])) := HO1.out.below hb2 HO1.out.lt
  have HG1 : Hid (w.heap.size ≤ g1) := Nat.le_trans HB1.out.size hg1
  have HW2 : Hid (w2.rowIs g1 3 l.length (fun i => .int .i64 (Mk.mcF l i))) := hrow2
  clear hb2 hrow2 hg1
  go_wp2_with fail
  refine (still_any w.heap.size a cap l _ hn HO2.out (HR.out.below HB2.out)).mono ?_
  rintro e w3 ⟨rfl, m3, hw3⟩
  have hb3 : Below w2.heap.size w2 w3 := by rw [hw3]; exact below_drewN (Below.refl _ _) _
  have HB3 : Hid (Below w.heap.size w w3) := HB2.out.trans (hb3.mono HB2.out.size)
  have HW3 : Hid (w3.rowIs g1 3 l.length (fun i => .int .i64 (Mk.mcF l i))) := row_below HW2.out hb3 (World.rowIs.lt HW2.out)
  clear hw3 hb3
  go_wp2_with fail
  refine (theirs_any a cap l _ hn (HR.out.below HB3.out)).mono ?_
  rintro e w4 ⟨a', cap', rfl, hR4, hb4⟩
  have HB4 : Hid (Below w.heap.size w w4) := HB3.out.trans (hb4.mono HB3.out.size)
  have HR4 : Hid (Rd w4 a' l) := hR4
  have HW4 : Hid (w4.rowIs g1 3 l.length (fun i => .int .i64 (Mk.mcF l i))) := row_below HW3.out hb4 (World.rowIs.lt HW3.out)
  clear hb4 hR4
  go_wp2_with fail
  refine (rmcafee_any a' cap' l _ HV.out HR4.out).mono ?_
  rintro e w5 ⟨g2, rfl, hg2, hb5, hrow5⟩
  have HB5 : Hid (Below w.heap.size w w5) := HB4.out.trans (hb5.mono HB4.out.size)
  have HW5 : Hid (w5.rowIs g1 3 l.length (fun i => .int .i64 (Mk.mcF l i))) := row_below HW4.out hb5 (World.rowIs.lt HW4.out)
  have HX5 : Hid (w5.rowIs g2 3 l.length (fun i => .int .i64 (Mk.mcF l i))) := hrow5
  clear hb5 hrow5 hg2
  go_wp2_with fail
  refine (same_some g1 g2 l.length (Mk.mcF l) _ hn HW5.out HX5.out).mono ?_
  rintro e w6 ⟨rfl, m6, hw6⟩
  have hb6 : Below w5.heap.size w5 w6 := by rw [hw6]; exact below_drewN (Below.refl _ _) _
  have HB6 : Hid (Below w.heap.size w w6) := HB5.out.trans (hb6.mono HB5.out.size)
  have HW6 : Hid (w6.rowIs g1 3 l.length (fun i => .int .i64 (Mk.mcF l i))) := row_below HW5.out hb6 (World.rowIs.lt HW5.out)
  clear hw6 hb6
  go_wp2_with (go_at_call 20; refine (num_any _ _).mono ?_; rintro e w7 ⟨rfl, hw7⟩; obtain rfl := hw7.symm)
  go_ret2
  exact ⟨g1, rfl, HG1.out, HB6.out, HW6.out⟩

end Go.Proofs.YtmebcdpdpcpnmaaGreatDoor

namespace Go.Proofs.YtmebcdpdpcpnmaaGreatDoor
open Go.RowKit

/-- a step of a script, as a value -/
abbrev opV (kind m a b : Int) (s : ByteArray) (oa : Option Addr) (n cap : Nat) : Value := .agg #[.int .i64 kind, .int .i64 m, .int .i64 a, .int .i64 b, .string s, .slice oa n cap]

/-- what a step leaves -/
def Left (G : Gst) (w : World) (B : Nat) (o : Outs) (e : Ending) (w' : World) : Prop := e = .returned (.bool true) ∧ ∃ o' vo' vw', o'.m ≤ o.m + 1 ∧ St G w' B o' vo' vw' ∧ Below B w w'

theorem St.lt {G : Gst} {w : World} {B : Nat} {o : Outs} {vo vw : Value} (h : St G w B o vo vw) : B < w.heap.size := h.pt.lt

set_option maxRecDepth 100000 in
set_option maxHeartbeats 2000000 in
theorem lists_uniform {G : Gst} (B : Nat) (o : Outs) (vo vw : Value) (m a b : Int) (s : ByteArray) (oa : Option Addr) (cap : Nat) (l : List Mk.Ord) (w : World) (hm : o.m ≤ 1048576) (hn : l.length ≤ 1048576) (hR : Rd w oa l) (hS : St G w B o vo vw) :
    Calls Tryz.prog 15 #[.pointer (some ⟨B, 0, none⟩), opV 1 m a b s oa l.length cap] w fun e w' => Left G w B o e w' := by
  have HS : Hid (St G w B o vo vw) := hS
  have HR : Hid (Rd w oa l) := hR
  have hBw := hS.lt
  clear hS hR
  have HB1 : Hid (∀ ob, Below w.heap.size w (w.alloc ob)) := fun ob => (Below.refl _ _).alloc (Nat.le_refl _) _
  rcases Bool.eq_false_or_eq_true (Mk.validB 20 l) with hv | hv
  · have h12 := (Mk.ok_of_valid hv).1
    by_cases h0 : l.length = 0
    · have hl : l = [] := List.eq_nil_of_length_eq_zero h0
      subst hl
      go_enter Tryz.func15, Tryz.ntmps15
      go_wp2_with fail
      refine (luniform_ok oa cap [] _ hv (HR.out.below (HB1.out _))).mono ?_
      rintro e w2 ⟨g, rfl, hg, hb2, hrow⟩
      have HB2 : Hid (Below w.heap.size w w2) := (HB1.out _).trans (hb2.mono (by simp))
      clear hb2 hrow hg
      go_wp2_with fail
      refine (keep_none B _ _).mono ?_
      rintro e w3 ⟨rfl, hw3⟩
      obtain rfl := hw3.symm
      go_wp2
      go_ret
      exact ⟨rfl, o, vo, vw, by omega, HS.out.below HB2.out, HB2.out.mono (by omega)⟩
    · go_enter Tryz.func15, Tryz.ntmps15
      go_wp2_with fail
      refine (luniform_ok oa cap l _ hv (HR.out.below (HB1.out _))).mono ?_
      rintro e w2 ⟨g, rfl, hg, hb2, hrow⟩
      have HB2 : Hid (Below w.heap.size w w2) := (HB1.out _).trans (hb2.mono (by simp))
      have hg' : w.heap.size ≤ g := by simp at hg; omega
      have HRow : Hid (w2.rowIs g 3 l.length (fun i => .int .i64 (Mk.uni l i))) := hrow
      clear hb2 hrow hg
      go_wp2_with fail
      refine (keep_some B g l.length o vo vw (Mk.uni l) _ (HS.out.below HB2.out) HRow.out (by omega) (by omega) (fun i hi => Nat.lt_of_lt_of_le (HS.out.rh i hi).lt hg') hm (fun h => by have := (HS.out.pt.gst _ h).1; omega)).mono ?_
      rintro e w3 ⟨rfl, vo', vw', hS3, hb3⟩
      have HS3 := (show Hid _ from hS3)
      have HB3 : Hid (Below B w w3) := (HB2.out.mono (by omega)).trans hb3
      clear hS3 hb3
      go_wp2
      go_ret
      exact ⟨rfl, _, vo', vw', Nat.le_refl _, HS3.out, HB3.out⟩
  · go_enter Tryz.func15, Tryz.ntmps15
    go_wp2_with fail
    refine (luniform_bad oa cap l _ hn hv (HR.out.below (HB1.out _))).mono ?_
    rintro e w2 ⟨rfl, hb2⟩
    have HB2 : Hid (Below w.heap.size w w2) := (HB1.out _).trans (hb2.mono (by simp))
    clear hb2
    go_wp2_with fail
    refine (keep_none B _ _).mono ?_
    rintro e w3 ⟨rfl, hw3⟩
    obtain rfl := hw3.symm
    go_wp2
    go_ret
    exact ⟨rfl, o, vo, vw, by omega, HS.out.below HB2.out, HB2.out.mono (by omega)⟩

set_option maxRecDepth 100000 in
set_option maxHeartbeats 2000000 in
theorem lists_mcafee {G : Gst} (B : Nat) (o : Outs) (vo vw : Value) (m a b : Int) (s : ByteArray) (oa : Option Addr) (cap : Nat) (l : List Mk.Ord) (w : World) (hm : o.m ≤ 1048576) (hn : l.length ≤ 1048576) (hR : Rd w oa l) (hS : St G w B o vo vw) :
    Calls Tryz.prog 15 #[.pointer (some ⟨B, 0, none⟩), opV 2 m a b s oa l.length cap] w fun e w' => Left G w B o e w' := by
  have HS : Hid (St G w B o vo vw) := hS
  have HR : Hid (Rd w oa l) := hR
  have hBw := hS.lt
  clear hS hR
  have HB1 : Hid (∀ ob, Below w.heap.size w (w.alloc ob)) := fun ob => (Below.refl _ _).alloc (Nat.le_refl _) _
  rcases Bool.eq_false_or_eq_true (Mk.validB 1 l) with hv | hv
  · have h12 := (Mk.ok_of_valid hv).1
    by_cases h0 : l.length = 0
    · have hl : l = [] := List.eq_nil_of_length_eq_zero h0
      subst hl
      go_enter Tryz.func15, Tryz.ntmps15
      go_wp2_with fail
      refine (lmcafee_ok oa cap [] _ hv (HR.out.below (HB1.out _))).mono ?_
      rintro e w2 ⟨g, rfl, hg, hb2, hrow⟩
      have HB2 : Hid (Below w.heap.size w w2) := (HB1.out _).trans (hb2.mono (by simp))
      clear hb2 hrow hg
      go_wp2_with fail
      refine (keep_none B _ _).mono ?_
      rintro e w3 ⟨rfl, hw3⟩
      obtain rfl := hw3.symm
      go_wp2
      go_ret
      exact ⟨rfl, o, vo, vw, by omega, HS.out.below HB2.out, HB2.out.mono (by omega)⟩
    · go_enter Tryz.func15, Tryz.ntmps15
      go_wp2_with fail
      refine (lmcafee_ok oa cap l _ hv (HR.out.below (HB1.out _))).mono ?_
      rintro e w2 ⟨g, rfl, hg, hb2, hrow⟩
      have HB2 : Hid (Below w.heap.size w w2) := (HB1.out _).trans (hb2.mono (by simp))
      have hg' : w.heap.size ≤ g := by simp at hg; omega
      have HRow : Hid (w2.rowIs g 3 l.length (fun i => .int .i64 (Mk.mcF l i))) := hrow
      clear hb2 hrow hg
      go_wp2_with fail
      refine (keep_some B g l.length o vo vw (Mk.mcF l) _ (HS.out.below HB2.out) HRow.out (by omega) (by omega) (fun i hi => Nat.lt_of_lt_of_le (HS.out.rh i hi).lt hg') hm (fun h => by have := (HS.out.pt.gst _ h).1; omega)).mono ?_
      rintro e w3 ⟨rfl, vo', vw', hS3, hb3⟩
      have HS3 := (show Hid _ from hS3)
      have HB3 : Hid (Below B w w3) := (HB2.out.mono (by omega)).trans hb3
      clear hS3 hb3
      go_wp2
      go_ret
      exact ⟨rfl, _, vo', vw', Nat.le_refl _, HS3.out, HB3.out⟩
  · go_enter Tryz.func15, Tryz.ntmps15
    go_wp2_with fail
    refine (lmcafee_bad oa cap l _ hn hv (HR.out.below (HB1.out _))).mono ?_
    rintro e w2 ⟨rfl, hb2⟩
    have HB2 : Hid (Below w.heap.size w w2) := (HB1.out _).trans (hb2.mono (by simp))
    clear hb2
    go_wp2_with fail
    refine (keep_none B _ _).mono ?_
    rintro e w3 ⟨rfl, hw3⟩
    obtain rfl := hw3.symm
    go_wp2
    go_ret
    exact ⟨rfl, o, vo, vw, by omega, HS.out.below HB2.out, HB2.out.mono (by omega)⟩

/-- the numbers of list k, cell i turned to v -/
def Outs.put (o : Outs) (k i : Nat) (v : Int) : Outs := ⟨o.m, o.g, o.h, o.n, fun a => if a = k then fun j => if j = i then v else o.F k j else o.F a⟩

theorem St.order {G : Gst} {w : World} {B : Nat} {o : Outs} {vo vw : Value} (hS : St G w B o vo vw) {i k : Nat} (hi : i < o.m) (hk : k < o.m) (hne : i ≠ k) : o.g i ≠ o.g k ∧ o.h i ≠ o.h k ∧ o.g i ≠ o.h k ∧ o.h i ≠ o.g k := by
  have a := hS.gh i hi
  have b := hS.gh k hk
  rcases Nat.lt_or_gt_of_ne hne with h | h
  · have c := hS.hg i k h hk
    omega
  · have c := hS.hg k i h hi
    omega
theorem St.put1 {G : Gst} {w : World} {B : Nat} {o : Outs} {vo vw : Value} (hS : St G w B o vo vw) {k i : Nat} (hk : k < o.m) (v : Int) :
    Pt G (w.setCell ⟨o.g k, i, none⟩ (.int .i64 v)) B vo o.m (sls o.g o.n o.m) vw o.m (sls o.h o.n o.m) := hS.pt.setRow (hS.rg k hk) (hS.lo k hk) (hS.gx k hk).1 _
theorem St.put {G : Gst} {w : World} {B : Nat} {o : Outs} {vo vw : Value} (hS : St G w B o vo vw) {k i : Nat} (hk : k < o.m) (v : Int) :
    St G ((w.setCell ⟨o.g k, i, none⟩ (.int .i64 v)).setCell ⟨o.h k, i, none⟩ (.int .i64 v)) B (o.put k i v) vo vw := by
  have hgh := hS.gh k hk
  have hlo := hS.lo k hk
  have hrh : (w.setCell ⟨o.g k, i, none⟩ (.int .i64 v)).rowIs (o.h k) 3 (o.n k) (fun j => .int .i64 (o.F k j)) := (hS.rh k hk).setOther (by show o.h k ≠ o.g k; omega) _
  refine ⟨(hS.put1 hk v).setRow hrh (by omega) (hS.gx k hk).2 _, ?_, ?_, hS.pos, hS.lo, hS.gh, hS.hg, hS.gx⟩
  · intro a ha
    by_cases e : a = k
    · subst e
      refine World.rowIs.congr ((World.rowIs.set (hS.rg a hk) i (.int .i64 v)).setOther (by show o.g a ≠ o.h a; omega) _) (fun j _ => ?_)
      simp only [Outs.put, if_true]
      by_cases e2 : j = i <;> simp [e2]
    · obtain ⟨n1, n2, n3, n4⟩ := hS.order ha hk e
      refine World.rowIs.congr (((hS.rg a ha).setOther (by show o.g a ≠ o.g k; exact n1) _).setOther (by show o.g a ≠ o.h k; exact n3) _) (fun j _ => ?_)
      simp only [Outs.put, e, if_false]
  · intro a ha
    by_cases e : a = k
    · subst e
      refine World.rowIs.congr (World.rowIs.set hrh i (.int .i64 v)) (fun j _ => ?_)
      simp only [Outs.put, if_true]
      by_cases e2 : j = i <;> simp [e2]
    · obtain ⟨n1, n2, n3, n4⟩ := hS.order ha hk e
      refine World.rowIs.congr (((hS.rh a ha).setOther (by show o.h a ≠ o.g k; exact n4) _).setOther (by show o.h a ≠ o.h k; exact n2) _) (fun j _ => ?_)
      simp only [Outs.put, e, if_false]

/-- pick, its answer told ahead of the world -/
theorem pick_fix (c : Int) (n : Nat) (h1 : -9223372036854775808 ≤ c) (h2 : c ≤ 9223372036854775807) (hn : 1 ≤ n) (hn2 : n ≤ 100000000) :
    ∃ i : Nat, i < n ∧ ∀ w, Calls Tryz.prog 21 #[.int .i64 c, .int .i64 n] w fun e w' => e = .returned (.int .i64 i) ∧ w' = w := by
  by_cases h : c < 0
  · obtain ⟨i, hi, he⟩ := pick_nat (x := -(c + 1)) hn
    have he' := (pick_neg (n := n) h).trans he
    have HE : Hid (-(c + 1).tmod (n : Int) = i) := he'
    clear he he'
    refine ⟨i, hi, fun w => ?_⟩
    go_enter Tryz.func21, Tryz.ntmps21
    go_wp2
    go_ret
    exact ⟨ret_int HE.out, rfl⟩
  · obtain ⟨i, hi, he⟩ := pick_nat (x := c) hn
    have HE : Hid (c % (n : Int) = i) := he
    clear he
    refine ⟨i, hi, fun w => ?_⟩
    go_enter Tryz.func21, Tryz.ntmps21
    go_wp2
    go_ret
    exact ⟨ret_int HE.out, rfl⟩

end Go.Proofs.YtmebcdpdpcpnmaaGreatDoor

namespace Go.Proofs.YtmebcdpdpcpnmaaGreatDoor
open Go.RowKit

set_option maxRecDepth 100000 in
set_option maxHeartbeats 2000000 in
theorem lists_write {G : Gst} (B : Nat) (o : Outs) (vo vw : Value) (m a b : Int) (s : ByteArray) (oa : Option Addr) (n cap : Nat) (w : World) (hm : o.m ≤ 1048576) (hS : St G w B o vo vw)
    (ha1 : -9223372036854775808 ≤ a) (ha2 : a ≤ 9223372036854775807) (hb1 : -9223372036854775808 ≤ b) (hb2 : b ≤ 9223372036854775807) :
    Calls Tryz.prog 15 #[.pointer (some ⟨B, 0, none⟩), opV 3 m a b s oa n cap] w fun e w' => Left G w B o e w' := by
  obtain ⟨ao, co, rfl⟩ := own_form hS.pt.own1
  obtain ⟨aw, cw, rfl⟩ := own_form hS.pt.own2
  have HS : Hid (St G w B o (.slice ao o.m co) (.slice aw o.m cw)) := hS
  have hBw := hS.lt
  have c1 := hS.pt.c1
  clear hS
  have HB1 : Hid (∀ ob, Below w.heap.size w (w.alloc ob)) := fun ob => (Below.refl _ _).alloc (Nat.le_refl _) _
  by_cases h0 : o.m = 0
  · have h0' : ¬ (0 : Int) < (o.m : Int) := by omega
    clear h0
    go_enter Tryz.func15, Tryz.ntmps15
    go_wp2
    go_ret
    exact ⟨rfl, o, _, _, by omega, HS.out.below (HB1.out _), (HB1.out _).mono (by omega)⟩
  · have h0' : (0 : Int) < (o.m : Int) := by omega
    obtain ⟨k, hk, hpk⟩ := pick_fix a o.m ha1 ha2 (by omega) (by omega)
    have hpos := HS.out.pos k hk
    obtain ⟨i, hi, hpi⟩ := pick_fix b (o.n k) hb1 hb2 (by omega) (by omega)
    have HK : Hid (∀ w, Calls Tryz.prog 21 #[.int .i64 a, .int .i64 o.m] w fun e w' => e = .returned (.int .i64 k) ∧ w' = w) := hpk
    have HI : Hid (∀ w, Calls Tryz.prog 21 #[.int .i64 b, .int .i64 (o.n k)] w fun e w' => e = .returned (.int .i64 i) ∧ w' = w) := hpi
    clear hpk hpi h0 ha1 ha2 hb1 hb2
    obtain ⟨go, rfl⟩ := own_some HS.out.pt.own1 (by omega)
    obtain ⟨gw, rfl⟩ := own_some HS.out.pt.own2 (by omega)
    have hk' : (k : Int) < (o.m : Int) := by omega
    have hi' : (i : Int) < (o.n k : Int) := by omega
    have l5 : B < o.g k := HS.out.lo k hk
    have l6 : o.g k < o.h k := HS.out.gh k hk
    go_enter Tryz.func15, Tryz.ntmps15
    go_wp2
    go_quiet ((go_at_call 21; exact Calls.quiet_of_same (HK.out _)))
    go_wp2_with fail
    have HB : Hid (Below w.heap.size w ((w.alloc (.cells #[.int .i64 3, .int .i64 m, .int .i64 a, .int .i64 b, .string s, .slice oa n cap] 33)).drewN nq)) := below_drewN (HB1.out _) nq
    have x1 : ((w.alloc (.cells #[.int .i64 3, .int .i64 m, .int .i64 a, .int .i64 b, .string s, .slice oa n cap] 33)).drewN nq).cell? ⟨w.heap.size, 1, none⟩ = some (.int .i64 m) := by simp
    have x3 : ((w.alloc (.cells #[.int .i64 3, .int .i64 m, .int .i64 a, .int .i64 b, .string s, .slice oa n cap] 33)).drewN nq).cell? ⟨w.heap.size, 3, none⟩ = some (.int .i64 b) := by simp
    generalize (w.alloc (.cells #[.int .i64 3, .int .i64 m, .int .i64 a, .int .i64 b, .string s, .slice oa n cap] 33)).drewN nq = W1 at *
    have HS1 : Hid (St G W1 B o (.slice (some ⟨go, 0, none⟩) o.m co) (.slice (some ⟨gw, 0, none⟩) o.m cw)) := HS.out.below HB.out
    clear c1
    have c1 := HS1.out.pt.c1
    have d1 := HS1.out.cellO hk
    go_quiet ((go_at_call 21; exact Calls.quiet_of_same (HI.out _)))
    go_wp2_with fail
    have HB2 : Hid (Below w.heap.size w (W1.drewN nq)) := below_drewN HB.out nq
    have x2 : (W1.drewN nq).cell? ⟨w.heap.size, 1, none⟩ = some (.int .i64 m) := by simpa using x1
    generalize W1.drewN nq = W2 at *
    have HS2 : Hid (St G W2 B o (.slice (some ⟨go, 0, none⟩) o.m co) (.slice (some ⟨gw, 0, none⟩) o.m cw)) := HS.out.below HB2.out
    clear c1 d1 x1 x3
    have c1 := HS2.out.pt.c1
    have d1 := HS2.out.cellO hk
    have e1 := (HS2.out.rg k hk).cell hi
    have z1 := (HS2.out.rg k hk).frozen i
    go_region
    have HSf : Hid (St G ((W2.setCell ⟨o.g k, i, none⟩ (.int .i64 m)).drew.setCell ⟨o.h k, i, none⟩ (.int .i64 m)) B (o.put k i m) (.slice (some ⟨go, 0, none⟩) o.m co) (.slice (some ⟨gw, 0, none⟩) o.m cw)) := (HS2.out.put hk m).below (w' := ((W2.setCell ⟨o.g k, i, none⟩ (.int .i64 m)).setCell ⟨o.h k, i, none⟩ (.int .i64 m)).drew) (Below.refl _ _).drew
    have HBf : Hid (Below B w ((W2.setCell ⟨o.g k, i, none⟩ (.int .i64 m)).drew.setCell ⟨o.h k, i, none⟩ (.int .i64 m))) := (((HB2.out.mono (by omega)).setCell (by show B ≤ o.g k; omega) _).drew).setCell (by show B ≤ o.h k; omega) _
    have hP := HS2.out.put1 (i := i) hk m
    have c2 : (W2.setCell ⟨o.g k, i, none⟩ (.int .i64 m)).drew.cell? ⟨B, 2, none⟩ = some (.slice (some ⟨gw, 0, none⟩) o.m cw) := hP.c2
    have d2 : (W2.setCell ⟨o.g k, i, none⟩ (.int .i64 m)).drew.cell? ⟨gw, k, none⟩ = some (.slice (some ⟨o.h k, 0, none⟩) (o.n k) (o.n k)) := (hP.own2.cellAt k (by omega)).trans (sls_get _ _ hk)
    have hR : (W2.setCell ⟨o.g k, i, none⟩ (.int .i64 m)).drew.rowIs (o.h k) 3 (o.n k) (fun j => .int .i64 (o.F k j)) := ((HS2.out.rh k hk).setOther (by show o.h k ≠ o.g k; omega) _).drew
    have e2 := hR.cell hi
    have z2 := hR.frozen i
    have l1 : o.g k < w.heap.size := (HS.out.rg k hk).lt
    have x4 : (W2.setCell ⟨o.g k, i, none⟩ (.int .i64 m)).drew.cell? ⟨w.heap.size, 1, none⟩ = some (.int .i64 m) := cell_set_ne (by omega) x2
    clear hP hR c1 d1 e1 z1 x2
    generalize (W2.setCell ⟨o.g k, i, none⟩ (.int .i64 m)).drew = W3 at *
    go_wp2_with fail
    go_region
    go_wp2
    go_ret
    exact ⟨rfl, o.put k i m, _, _, by show o.m ≤ o.m + 1; omega, HSf.out.below (Below.refl _ _).drew, HBf.out.drew⟩

end Go.Proofs.YtmebcdpdpcpnmaaGreatDoor
