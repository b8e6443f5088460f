import Derived.Test.YtljeahgpkeohlaaGreatDoorJ36
import Derived.Test.YtljeahgpkeohlaaGreatDoorJ34
import Derived.Test.YtljeahgpkeohlaaGreatDoorJ18
import Derived.Test.YtljeahgpkeohlaaGreatDoorJ33
import Derived.Test.YtljeahgpkeohlaaGreatDoorJ9
import Derived.Test.YtljeahgpkeohlaaGreatDoorJ7
import Derived.Test.YtljeahgpkeohlaaGreatDoorJ20
import Derived.Test.YtljeahgpkeohlaaGreatDoorJ23
namespace Go.Proofs.YtljeahgpkeohlaaGreatDoor
open Go.RowKit

theorem wt_buy1 : ((Mk.Wd.text .buy).toList == [112, 97, 121]) = false := by simp [Mk.Wd.text]
theorem wt_buy2 : ((Mk.Wd.text .buy).toList == [100, 114, 97, 119]) = false := by simp [Mk.Wd.text]
theorem wt_buy3 : ((Mk.Wd.text .buy).toList == [98, 114, 105, 110, 103]) = false := by simp [Mk.Wd.text]
theorem wt_buy4 : ((Mk.Wd.text .buy).toList == [102, 101, 116, 99, 104]) = false := by simp [Mk.Wd.text]
theorem wt_buy5 : ((Mk.Wd.text .buy).toList == [98, 117, 121]) = true := by simp [Mk.Wd.text]
theorem wt_sell1 : ((Mk.Wd.text .sell).toList == [112, 97, 121]) = false := by simp [Mk.Wd.text]
theorem wt_sell2 : ((Mk.Wd.text .sell).toList == [100, 114, 97, 119]) = false := by simp [Mk.Wd.text]
theorem wt_sell3 : ((Mk.Wd.text .sell).toList == [98, 114, 105, 110, 103]) = false := by simp [Mk.Wd.text]
theorem wt_sell4 : ((Mk.Wd.text .sell).toList == [102, 101, 116, 99, 104]) = false := by simp [Mk.Wd.text]
theorem wt_sell5 : ((Mk.Wd.text .sell).toList == [98, 117, 121]) = false := by simp [Mk.Wd.text]
theorem wt_sell6 : ((Mk.Wd.text .sell).toList == [115, 101, 108, 108]) = true := by simp [Mk.Wd.text]
theorem wt_drop1 : ((Mk.Wd.text .drop).toList == [112, 97, 121]) = false := by simp [Mk.Wd.text]
theorem wt_drop2 : ((Mk.Wd.text .drop).toList == [100, 114, 97, 119]) = false := by simp [Mk.Wd.text]
theorem wt_drop3 : ((Mk.Wd.text .drop).toList == [98, 114, 105, 110, 103]) = false := by simp [Mk.Wd.text]
theorem wt_drop4 : ((Mk.Wd.text .drop).toList == [102, 101, 116, 99, 104]) = false := by simp [Mk.Wd.text]
theorem wt_drop5 : ((Mk.Wd.text .drop).toList == [98, 117, 121]) = false := by simp [Mk.Wd.text]
theorem wt_drop6 : ((Mk.Wd.text .drop).toList == [115, 101, 108, 108]) = false := by simp [Mk.Wd.text]
theorem wt_drop7 : ((Mk.Wd.text .drop).toList == [100, 114, 111, 112]) = true := by simp [Mk.Wd.text]
theorem doT_next {p : Nat} {b : RB} {x : ByteArray × Int × Mk.Mkt} {w w1 w2 : World} {e : Ending} (hb : Below w.heap.size w w1) (h : DoT p b x w1 e w2) : DoT p b x w e w2 := by
  obtain ⟨he, b', hR, ho, hn⟩ := h
  refine ⟨he, b', hR, (Only.of_below hb).trans ho (fun _ _ h => h), fun k hk => ?_⟩
  rcases hn k hk with h | h
  · exact .inl h
  · exact .inr (Nat.le_trans hb.size h)

set_option maxRecDepth 100000 in
set_option maxHeartbeats 2000000 in
theorem does_buy (p g cap : Nat) (b : RB) (M : Mk.Mkt) (who v : Nat) (r pr q : Int) (mc : Bool) (w : World) (hM : M.Fine) (hR : Ref w p b M) (hw : who < 4) (hv : v < 2) (bp : 1 ≤ pr ∧ pr ≤ 99) (bq : 1 ≤ q ∧ q ≤ 20) (hcm : 0 ≤ M.cm v ∧ M.cm v ≤ 12)
    (g0 : w.cell? ⟨g, 0, none⟩ = some (.int .i64 (v : Int))) (g1 : w.cell? ⟨g, 1, none⟩ = some (.int .i64 pr)) (g2 : w.cell? ⟨g, 2, none⟩ = some (.int .i64 q)) :
    Calls Tryz.prog 44 #[.pointer (some ⟨p, 0, none⟩), cmdV who r .buy (.slice (some ⟨g, 0, none⟩) 3 cap) mc] w fun e w' => DoT p b (Mk.orderM M v who ⟨false, pr, q⟩) w e w' := by
  have HM : Hid M.Fine := hM
  have HR : Hid (Ref w p b M) := hR
  have hgl := blk_lt g0
  have HG := (show Hid _ from And.intro g0 (And.intro g1 g2))
  have HB : Hid (∀ ob, Below w.heap.size w (w.alloc ob)) := fun ob => (Below.refl _ _).alloc (Nat.le_refl _) ob
  have t0 := wt_buy1
  have t1 := wt_buy2
  have t2 := wt_buy3
  have t3 := wt_buy4
  have t4 := wt_buy5
  clear hM hR g0 g1 g2
  go_enter Tryz.func44, Tryz.ntmps44
  go_wp2_with fail
  refine (order_any p g cap b M who v r pr q .buy false mc _ HM.out (HR.out.below (HB.out _)) hw hv bp bq hcm (by simp [Mk.Wd.text]) (((HB.out _).cell (p := ⟨g, 0, none⟩) hgl).trans HG.out.1) (((HB.out _).cell (p := ⟨g, 1, none⟩) hgl).trans HG.out.2.1) (((HB.out _).cell (p := ⟨g, 2, none⟩) hgl).trans HG.out.2.2)).mono ?_
  intro e w2 hD
  have hD' := doT_next (HB.out _) hD
  obtain rfl := hD'.1
  have HD : Hid (DoT p b (Mk.orderM M v who ⟨false, pr, q⟩) w (.returned (.tuple #[.string (Mk.orderM M v who ⟨false, pr, q⟩).1, .int .i64 (Mk.orderM M v who ⟨false, pr, q⟩).2.1])) w2) := hD'
  clear hD hD'
  go_wp2_with fail
  refine bodyPost_ret (v := .tuple #[.string (Mk.orderM M v who ⟨false, pr, q⟩).1, .int .i64 (Mk.orderM M v who ⟨false, pr, q⟩).2.1]) ?_ rfl HD.out
  simp [results, Tryz.results44, go_sem]

set_option maxRecDepth 100000 in
set_option maxHeartbeats 2000000 in
theorem does_sell (p g cap : Nat) (b : RB) (M : Mk.Mkt) (who v : Nat) (r pr q : Int) (mc : Bool) (w : World) (hM : M.Fine) (hR : Ref w p b M) (hw : who < 4) (hv : v < 2) (bp : 1 ≤ pr ∧ pr ≤ 99) (bq : 1 ≤ q ∧ q ≤ 20) (hcm : 0 ≤ M.cm v ∧ M.cm v ≤ 12)
    (g0 : w.cell? ⟨g, 0, none⟩ = some (.int .i64 (v : Int))) (g1 : w.cell? ⟨g, 1, none⟩ = some (.int .i64 pr)) (g2 : w.cell? ⟨g, 2, none⟩ = some (.int .i64 q)) :
    Calls Tryz.prog 44 #[.pointer (some ⟨p, 0, none⟩), cmdV who r .sell (.slice (some ⟨g, 0, none⟩) 3 cap) mc] w fun e w' => DoT p b (Mk.orderM M v who ⟨true, pr, q⟩) w e w' := by
  have HM : Hid M.Fine := hM
  have HR : Hid (Ref w p b M) := hR
  have hgl := blk_lt g0
  have HG := (show Hid _ from And.intro g0 (And.intro g1 g2))
  have HB : Hid (∀ ob, Below w.heap.size w (w.alloc ob)) := fun ob => (Below.refl _ _).alloc (Nat.le_refl _) ob
  have t0 := wt_sell1
  have t1 := wt_sell2
  have t2 := wt_sell3
  have t3 := wt_sell4
  have t4 := wt_sell5
  have t5 := wt_sell6
  clear hM hR g0 g1 g2
  go_enter Tryz.func44, Tryz.ntmps44
  go_wp2_with fail
  refine (order_any p g cap b M who v r pr q .sell true mc _ HM.out (HR.out.below (HB.out _)) hw hv bp bq hcm (by simp [Mk.Wd.text]) (((HB.out _).cell (p := ⟨g, 0, none⟩) hgl).trans HG.out.1) (((HB.out _).cell (p := ⟨g, 1, none⟩) hgl).trans HG.out.2.1) (((HB.out _).cell (p := ⟨g, 2, none⟩) hgl).trans HG.out.2.2)).mono ?_
  intro e w2 hD
  have hD' := doT_next (HB.out _) hD
  obtain rfl := hD'.1
  have HD : Hid (DoT p b (Mk.orderM M v who ⟨true, pr, q⟩) w (.returned (.tuple #[.string (Mk.orderM M v who ⟨true, pr, q⟩).1, .int .i64 (Mk.orderM M v who ⟨true, pr, q⟩).2.1])) w2) := hD'
  clear hD hD'
  go_wp2_with fail
  refine bodyPost_ret (v := .tuple #[.string (Mk.orderM M v who ⟨true, pr, q⟩).1, .int .i64 (Mk.orderM M v who ⟨true, pr, q⟩).2.1]) ?_ rfl HD.out
  simp [results, Tryz.results44, go_sem]

set_option maxRecDepth 100000 in
set_option maxHeartbeats 2000000 in
theorem does_drop (p g cap : Nat) (b : RB) (M : Mk.Mkt) (who v : Nat) (r n : Int) (mc : Bool) (w : World) (hM : Mk.Sound M) (hR : Ref w p b M) (hw : who < 4) (hv : v < 2)
    (g0 : w.cell? ⟨g, 0, none⟩ = some (.int .i64 (v : Int))) (g1 : w.cell? ⟨g, 1, none⟩ = some (.int .i64 n)) (hgn : ¬ b.has p g) :
    Calls Tryz.prog 44 #[.pointer (some ⟨p, 0, none⟩), cmdV who r .drop (.slice (some ⟨g, 0, none⟩) 2 cap) mc] w fun e w' => DoT p b (⟨#[]⟩, (Mk.dropM M v who n).1, (Mk.dropM M v who n).2) w e w' := by
  have HM : Hid (Mk.Sound M) := hM
  have HR : Hid (Ref w p b M) := hR
  have hgl := blk_lt g0
  have HG := (show Hid _ from And.intro g0 (And.intro g1 hgn))
  have HB : Hid (∀ ob, Below w.heap.size w (w.alloc ob)) := fun ob => (Below.refl _ _).alloc (Nat.le_refl _) ob
  have t0 := wt_drop1
  have t1 := wt_drop2
  have t2 := wt_drop3
  have t3 := wt_drop4
  have t4 := wt_drop5
  have t5 := wt_drop6
  have t6 := wt_drop7
  clear hM hR g0 g1 hgn
  go_enter Tryz.func44, Tryz.ntmps44
  go_wp2_with fail
  refine (rdrop_any p g cap b M who v r n .drop mc _ HM.out.fine (HR.out.below (HB.out _)) hw hv (hit_idx (HM.out.inc v hv)) (((HB.out _).cell (p := ⟨g, 0, none⟩) hgl).trans HG.out.1) (((HB.out _).cell (p := ⟨g, 1, none⟩) hgl).trans HG.out.2.1) HG.out.2.2).mono ?_
  rintro e w2 ⟨rfl, hD⟩
  have HD : Hid (DoT p b (⟨#[]⟩, (Mk.dropM M v who n).1, (Mk.dropM M v who n).2) w (.returned (.tuple #[.string ⟨#[]⟩, .int .i64 (Mk.dropM M v who n).1])) w2) := doT_next (HB.out _) ⟨rfl, hD⟩
  clear hD
  go_wp2_with fail
  refine bodyPost_ret (v := .tuple #[.string ⟨#[]⟩, .int .i64 (Mk.dropM M v who n).1]) ?_ rfl HD.out
  simp [results, Tryz.results44, go_sem]

end Go.Proofs.YtljeahgpkeohlaaGreatDoor

namespace Go.Proofs.YtljeahgpkeohlaaGreatDoor
open Go.RowKit

theorem pdoT_next {p : Nat} {vb : Nat → Value} {x : ByteArray × Int × Mk.Mkt} {w w1 w2 : World} {e : Ending} (hb : Below w.heap.size w w1) (h : PDoT p vb x w1 e w2) : PDoT p vb x w e w2 := by
  obtain ⟨he, b', hR, ho, hn⟩ := h
  refine ⟨he, b', hR, (Only.of_below hb).trans ho (fun _ _ h => h), fun k hk => ?_⟩
  rcases hn k hk with h | h
  · exact .inl h
  · exact .inr (Nat.le_trans hb.size h)

set_option maxRecDepth 100000 in
set_option maxHeartbeats 2000000 in
theorem carry_buy (p : Nat) (vb : Nat → Value) (M : Mk.Mkt) (who : Nat) (r : Int) (v : Nat) (a pr q o : Int) (m : Bool) (w : World) (hM : M.Fine) (hP : PM w p vb M) (hw : who < 4) (hv : v < 2) (bp : 1 ≤ pr ∧ pr ≤ 99) (bq : 1 ≤ q ∧ q ≤ 20) (hcm : 0 ≤ M.cm v ∧ M.cm v ≤ 12) (hT : Tab w) :
    Calls Tryz.prog 46 #[.pointer (some ⟨p, 0, none⟩), rqA who r ⟨#[98, 117, 121]⟩ v a pr q o m] w fun e w' => PDoT p vb (Mk.orderM M v who ⟨false, pr, q⟩) w e w' := by
  have HM : Hid M.Fine := hM
  have HB1 : Hid (Below w.heap.size w (w.alloc (rqO who r ⟨#[98, 117, 121]⟩ v a pr q o m))) := (Below.refl _ _).alloc (Nat.le_refl _) _
  have HP1 : Hid (PM (w.alloc (rqO who r ⟨#[98, 117, 121]⟩ v a pr q o m)) p vb M) := hP.below HB1.out
  have HT1 : Hid (Tab (w.alloc (rqO who r ⟨#[98, 117, 121]⟩ v a pr q o m))) := hT.next HB1.out
  clear hM hP hT
  go_enter Tryz.func46, Tryz.ntmps46
  go_wp2_with fail
  refine (pplace_any p vb M who r ⟨#[98, 117, 121]⟩ v a pr q o m false _ HM.out HP1.out hw hv bp bq hcm HT1.out).mono ?_
  intro e w2 hD
  have hD' := pdoT_next HB1.out hD
  obtain rfl := hD'.1
  have HD : Hid (PDoT p vb (Mk.orderM M v who ⟨false, pr, q⟩) w (.returned (.tuple #[.string (Mk.orderM M v who ⟨false, pr, q⟩).1, .int .i64 (Mk.orderM M v who ⟨false, pr, q⟩).2.1])) w2) := hD'
  clear hD hD'
  go_wp2_with fail
  refine bodyPost_ret (v := .tuple #[.string (Mk.orderM M v who ⟨false, pr, q⟩).1, .int .i64 (Mk.orderM M v who ⟨false, pr, q⟩).2.1]) ?_ rfl HD.out
  simp [results, Tryz.results46, go_sem]

set_option maxRecDepth 100000 in
set_option maxHeartbeats 2000000 in
theorem carry_sell (p : Nat) (vb : Nat → Value) (M : Mk.Mkt) (who : Nat) (r : Int) (v : Nat) (a pr q o : Int) (m : Bool) (w : World) (hM : M.Fine) (hP : PM w p vb M) (hw : who < 4) (hv : v < 2) (bp : 1 ≤ pr ∧ pr ≤ 99) (bq : 1 ≤ q ∧ q ≤ 20) (hcm : 0 ≤ M.cm v ∧ M.cm v ≤ 12) (hT : Tab w) :
    Calls Tryz.prog 46 #[.pointer (some ⟨p, 0, none⟩), rqA who r ⟨#[115, 101, 108, 108]⟩ v a pr q o m] w fun e w' => PDoT p vb (Mk.orderM M v who ⟨true, pr, q⟩) w e w' := by
  have HM : Hid M.Fine := hM
  have HB1 : Hid (Below w.heap.size w (w.alloc (rqO who r ⟨#[115, 101, 108, 108]⟩ v a pr q o m))) := (Below.refl _ _).alloc (Nat.le_refl _) _
  have HP1 : Hid (PM (w.alloc (rqO who r ⟨#[115, 101, 108, 108]⟩ v a pr q o m)) p vb M) := hP.below HB1.out
  have HT1 : Hid (Tab (w.alloc (rqO who r ⟨#[115, 101, 108, 108]⟩ v a pr q o m))) := hT.next HB1.out
  clear hM hP hT
  go_enter Tryz.func46, Tryz.ntmps46
  go_wp2_with fail
  refine (pplace_any p vb M who r ⟨#[115, 101, 108, 108]⟩ v a pr q o m true _ HM.out HP1.out hw hv bp bq hcm HT1.out).mono ?_
  intro e w2 hD
  have hD' := pdoT_next HB1.out hD
  obtain rfl := hD'.1
  have HD : Hid (PDoT p vb (Mk.orderM M v who ⟨true, pr, q⟩) w (.returned (.tuple #[.string (Mk.orderM M v who ⟨true, pr, q⟩).1, .int .i64 (Mk.orderM M v who ⟨true, pr, q⟩).2.1])) w2) := hD'
  clear hD hD'
  go_wp2_with fail
  refine bodyPost_ret (v := .tuple #[.string (Mk.orderM M v who ⟨true, pr, q⟩).1, .int .i64 (Mk.orderM M v who ⟨true, pr, q⟩).2.1]) ?_ rfl HD.out
  simp [results, Tryz.results46, go_sem]

set_option maxRecDepth 100000 in
set_option maxHeartbeats 2000000 in
theorem carry_drop (p : Nat) (vb : Nat → Value) (M : Mk.Mkt) (who : Nat) (r : Int) (v : Nat) (a pr q n : Int) (m : Bool) (w : World) (hM : Mk.Sound M) (hP : PM w p vb M) (hw : who < 4) (hv : v < 2) :
    Calls Tryz.prog 46 #[.pointer (some ⟨p, 0, none⟩), rqA who r ⟨#[100, 114, 111, 112]⟩ v a pr q n m] w fun e w' => PDoT p vb (⟨#[]⟩, (Mk.dropM M v who n).1, (Mk.dropM M v who n).2) w e w' := by
  have HM : Hid (Mk.Sound M) := hM
  have HB1 : Hid (Below w.heap.size w (w.alloc (rqO who r ⟨#[100, 114, 111, 112]⟩ v a pr q n m))) := (Below.refl _ _).alloc (Nat.le_refl _) _
  have HP1 : Hid (PM (w.alloc (rqO who r ⟨#[100, 114, 111, 112]⟩ v a pr q n m)) p vb M) := hP.below HB1.out
  clear hM hP
  go_enter Tryz.func46, Tryz.ntmps46
  go_wp2_with fail
  refine (pdrop_any p vb M who r ⟨#[100, 114, 111, 112]⟩ v a pr q n m _ HM.out.fine HP1.out hw hv (hit_same (HM.out.inc v hv))).mono ?_
  rintro e w2 ⟨rfl, hD⟩
  have HD : Hid (PDoT p vb (⟨#[]⟩, (Mk.dropM M v who n).1, (Mk.dropM M v who n).2) w (.returned (.tuple #[.string ⟨#[]⟩, .int .i64 (Mk.dropM M v who n).1])) w2) := pdoT_next HB1.out ⟨rfl, hD⟩
  clear hD
  go_wp2_with fail
  refine bodyPost_ret (v := .tuple #[.string ⟨#[]⟩, .int .i64 (Mk.dropM M v who n).1]) ?_ rfl HD.out
  simp [results, Tryz.results46, go_sem]

end Go.Proofs.YtljeahgpkeohlaaGreatDoor

namespace Go.Proofs.YtljeahgpkeohlaaGreatDoor
open Go.RowKit

set_option maxRecDepth 100000 in
set_option maxHeartbeats 2000000 in
theorem luniform_bad (a : Option Addr) (cap : Nat) (l : List Mk.Ord) (w : World) (hn : l.length ≤ 1048576) (hv : Mk.validB 20 l = false) (hR : Rd w a l) :
    Calls Tryz.prog 22 #[.slice a l.length cap] w fun e w' => e = .returned (.tuple #[.slice none 0 0, .bool true]) ∧ Below w.heap.size w w' := by
  have HR : Hid (Rd w a l) := hR
  have HV : Hid (Mk.validB 20 l = false) := hv
  clear hR hv
  have hnil := fun (w : World) (a : Option Addr) (n c : Nat) => Lib.run_eql_slice_nil (P := Tryz.prog) w 53 3 a n c 0 0 Tryz.underlying53
  go_enter Tryz.func22, Tryz.ntmps22
  go_wp2_with fail
  refine (roomy_any a cap l _ hn HR.out).mono ?_
  rintro e w1 ⟨rfl, hb1, hO1⟩
  have HB1 : Hid (Below w.heap.size w w1) := hb1
  have HO1 : Hid (Own w1 w.heap.size (l ++ [o7, o8])) := hO1
  clear hb1 hO1
  go_wp2_with fail
  refine (uniform_bad _ (l.length + 2) l _ HV.out (.inr ⟨_, _, rfl, HO1.out.head⟩)).mono ?_
  rintro e w2 ⟨rfl, hb2⟩
  have HB2 : Hid (Below w.heap.size w w2) := HB1.out.trans (hb2.mono HB1.out.size)
  have HO2 : Hid (Own w2 w.heap.size (l ++ [o7, o8])) := HO1.out.below hb2 HO1.out.lt
  clear hb2
  go_wp2_with fail
  refine (still_any w.heap.size a cap l _ hn HO2.out (HR.out.below HB2.out)).mono ?_
  rintro e w3 ⟨rfl, m3, hw3⟩
  have HB3 : Hid (Below w.heap.size w w3) := by rw [hw3]; exact below_drewN HB2.out _
  clear hw3
  go_wp2_with fail
  refine (theirs_any a cap l _ hn (HR.out.below HB3.out)).mono ?_
  rintro e w4 ⟨a', cap', rfl, hR4, hb4⟩
  have HB4 : Hid (Below w.heap.size w w4) := HB3.out.trans (hb4.mono HB3.out.size)
  have HR4 : Hid (Rd w4 a' l) := hR4
  clear hb4 hR4
  go_wp2_with fail
  refine (runiform_bad a' cap' l _ HV.out HR4.out).mono ?_
  rintro e w5 ⟨rfl, hb5⟩
  have HB5 : Hid (Below w.heap.size w w5) := HB4.out.trans (hb5.mono HB4.out.size)
  clear hb5
  go_wp2_with fail
  refine (same_nil _).mono ?_
  rintro e w6 ⟨rfl, m6, hw6⟩
  have HB6 : Hid (Below w.heap.size w w6) := by rw [hw6]; exact below_drewN HB5.out _
  clear hw6
  go_wp2_with (go_at_call 18; refine (num_any _ _).mono ?_; rintro e w7 ⟨rfl, hw7⟩; obtain rfl := hw7.symm)
  go_ret2
  exact ⟨rfl, HB6.out⟩

set_option maxRecDepth 100000 in
set_option maxHeartbeats 2000000 in
theorem luniform_ok (a : Option Addr) (cap : Nat) (l : List Mk.Ord) (w : World) (hv : Mk.validB 20 l = true) (hR : Rd w a l) :
    Calls Tryz.prog 22 #[.slice a l.length cap] w fun e w' => ∃ g, e = .returned (.tuple #[.slice (some ⟨g, 0, none⟩) l.length l.length, .bool true]) ∧ w.heap.size ≤ g ∧ Below w.heap.size w w' ∧ w'.rowIs g 3 l.length (fun i => .int .i64 (Mk.uni l i)) := by
  have HR : Hid (Rd w a l) := hR
  have HV : Hid (Mk.validB 20 l = true) := hv
  have h12 := (Mk.ok_of_valid hv).1
  have hn : l.length ≤ 1048576 := by omega
  clear hR hv
  go_enter Tryz.func22, Tryz.ntmps22
  go_wp2_with fail
  refine (roomy_any a cap l _ hn HR.out).mono ?_
  rintro e w1 ⟨rfl, hb1, hO1⟩
  have HB1 : Hid (Below w.heap.size w w1) := hb1
  have HO1 : Hid (Own w1 w.heap.size (l ++ [o7, o8])) := hO1
  clear hb1 hO1
  go_wp2_with fail
  refine (uniform_any _ (l.length + 2) l _ HV.out (.inr ⟨_, _, rfl, HO1.out.head⟩)).mono ?_
  rintro e w2 ⟨g1, rfl, hg1, hb2, hrow2⟩
  have HB2 : Hid (Below w.heap.size w w2) := HB1.out.trans (hb2.mono HB1.out.size)
  have HO2 : Hid (Own w2 w.heap.size (l ++ [o7, o8])) := HO1.out.below hb2 HO1.out.lt
  have HG1 : Hid (w.heap.size ≤ g1) := Nat.le_trans HB1.out.size hg1
  have HW2 : Hid (w2.rowIs g1 3 l.length (fun i => .int .i64 (Mk.uni l i))) := hrow2
  clear hb2 hrow2 hg1
  go_wp2_with fail
  refine (still_any w.heap.size a cap l _ hn HO2.out (HR.out.below HB2.out)).mono ?_
  rintro e w3 ⟨rfl, m3, hw3⟩
  have hb3 : Below w2.heap.size w2 w3 := by rw [hw3]; exact below_drewN (Below.refl _ _) _
  have HB3 : Hid (Below w.heap.size w w3) := HB2.out.trans (hb3.mono HB2.out.size)
  have HW3 : Hid (w3.rowIs g1 3 l.length (fun i => .int .i64 (Mk.uni l i))) := row_below HW2.out hb3 (World.rowIs.lt HW2.out)
  clear hw3 hb3
  go_wp2_with fail
  refine (theirs_any a cap l _ hn (HR.out.below HB3.out)).mono ?_
  rintro e w4 ⟨a', cap', rfl, hR4, hb4⟩
  have HB4 : Hid (Below w.heap.size w w4) := HB3.out.trans (hb4.mono HB3.out.size)
  have HR4 : Hid (Rd w4 a' l) := hR4
  have HW4 : Hid (w4.rowIs g1 3 l.length (fun i => .int .i64 (Mk.uni l i))) := row_below HW3.out hb4 (World.rowIs.lt HW3.out)
  clear hb4 hR4
  go_wp2_with fail
  refine (runiform_any a' cap' l _ HV.out HR4.out).mono ?_
  rintro e w5 ⟨g2, rfl, hg2, hb5, hrow5⟩
  have HB5 : Hid (Below w.heap.size w w5) := HB4.out.trans (hb5.mono HB4.out.size)
  have HW5 : Hid (w5.rowIs g1 3 l.length (fun i => .int .i64 (Mk.uni l i))) := row_below HW4.out hb5 (World.rowIs.lt HW4.out)
  have HX5 : Hid (w5.rowIs g2 3 l.length (fun i => .int .i64 (Mk.uni l i))) := hrow5
  clear hb5 hrow5 hg2
  go_wp2_with fail
  refine (same_some g1 g2 l.length (Mk.uni l) _ hn HW5.out HX5.out).mono ?_
  rintro e w6 ⟨rfl, m6, hw6⟩
  have hb6 : Below w5.heap.size w5 w6 := by rw [hw6]; exact below_drewN (Below.refl _ _) _
  have HB6 : Hid (Below w.heap.size w w6) := HB5.out.trans (hb6.mono HB5.out.size)
  have HW6 : Hid (w6.rowIs g1 3 l.length (fun i => .int .i64 (Mk.uni l i))) := row_below HW5.out hb6 (World.rowIs.lt HW5.out)
  clear hw6 hb6
  go_wp2_with (go_at_call 18; refine (num_any _ _).mono ?_; rintro e w7 ⟨rfl, hw7⟩; obtain rfl := hw7.symm)
  go_ret2
  exact ⟨g1, rfl, HG1.out, HB6.out, HW6.out⟩

end Go.Proofs.YtljeahgpkeohlaaGreatDoor

namespace Go.Proofs.YtljeahgpkeohlaaGreatDoor
open Go.RowKit

set_option maxRecDepth 100000 in
set_option maxHeartbeats 2000000 in
theorem lmcafee_bad (a : Option Addr) (cap : Nat) (l : List Mk.Ord) (w : World) (hn : l.length ≤ 1048576) (hv : Mk.validB 1 l = false) (hR : Rd w a l) :
    Calls Tryz.prog 24 #[.slice a l.length cap] w fun e w' => e = .returned (.tuple #[.slice none 0 0, .bool true]) ∧ Below w.heap.size w w' := by
  have HR : Hid (Rd w a l) := hR
  have HV : Hid (Mk.validB 1 l = false) := hv
  clear hR hv
  have hnil := fun (w : World) (a : Option Addr) (n c : Nat) => Lib.run_eql_slice_nil (P := Tryz.prog) w 53 3 a n c 0 0 Tryz.underlying53
  go_enter Tryz.func24, Tryz.ntmps24
  go_wp2_with fail
  refine (roomy_any a cap l _ hn HR.out).mono ?_
  rintro e w1 ⟨rfl, hb1, hO1⟩
  have HB1 : Hid (Below w.heap.size w w1) := hb1
  have HO1 : Hid (Own w1 w.heap.size (l ++ [o7, o8])) := hO1
  clear hb1 hO1
  go_wp2_with fail
  refine (mcafee_bad _ (l.length + 2) l _ HV.out (.inr ⟨_, _, rfl, HO1.out.head⟩)).mono ?_
  rintro e w2 ⟨rfl, hb2⟩
  have HB2 : Hid (Below w.heap.size w w2) := HB1.out.trans (hb2.mono HB1.out.size)
  have HO2 : Hid (Own w2 w.heap.size (l ++ [o7, o8])) := HO1.out.below hb2 HO1.out.lt
  clear hb2
  go_wp2_with fail
  refine (still_any w.heap.size a cap l _ hn HO2.out (HR.out.below HB2.out)).mono ?_
  rintro e w3 ⟨rfl, m3, hw3⟩
  have HB3 : Hid (Below w.heap.size w w3) := by rw [hw3]; exact below_drewN HB2.out _
  clear hw3
  go_wp2_with fail
  refine (theirs_any a cap l _ hn (HR.out.below HB3.out)).mono ?_
  rintro e w4 ⟨a', cap', rfl, hR4, hb4⟩
  have HB4 : Hid (Below w.heap.size w w4) := HB3.out.trans (hb4.mono HB3.out.size)
  have HR4 : Hid (Rd w4 a' l) := hR4
  clear hb4 hR4
  go_wp2_with fail
  refine (rmcafee_bad a' cap' l _ HV.out HR4.out).mono ?_
  rintro e w5 ⟨rfl, hb5⟩
  have HB5 : Hid (Below w.heap.size w w5) := HB4.out.trans (hb5.mono HB4.out.size)
  clear hb5
  go_wp2_with fail
  refine (same_nil _).mono ?_
  rintro e w6 ⟨rfl, m6, hw6⟩
  have HB6 : Hid (Below w.heap.size w w6) := by rw [hw6]; exact below_drewN HB5.out _
  clear hw6
  go_wp2_with (go_at_call 18; refine (num_any _ _).mono ?_; rintro e w7 ⟨rfl, hw7⟩; obtain rfl := hw7.symm)
  go_ret2
  exact ⟨rfl, HB6.out⟩

set_option maxRecDepth 100000 in
set_option maxHeartbeats 2000000 in
theorem lmcafee_ok (a : Option Addr) (cap : Nat) (l : List Mk.Ord) (w : World) (hv : Mk.validB 1 l = true) (hR : Rd w a l) :
    Calls Tryz.prog 24 #[.slice a l.length cap] w fun e w' => ∃ g, e = .returned (.tuple #[.slice (some ⟨g, 0, none⟩) l.length l.length, .bool true]) ∧ w.heap.size ≤ g ∧ Below w.heap.size w w' ∧ w'.rowIs g 3 l.length (fun i => .int .i64 (Mk.mcF l i)) := by
  have HR : Hid (Rd w a l) := hR
  have HV : Hid (Mk.validB 1 l = true) := hv
  have h12 := (Mk.ok_of_valid hv).1
  have hn : l.length ≤ 1048576 := by omega
  clear hR hv
  go_enter Tryz.func24, Tryz.ntmps24
  go_wp2_with fail
  refine (roomy_any a cap l _ hn HR.out).mono ?_
  rintro e w1 ⟨rfl, hb1, hO1⟩
  have HB1 : Hid (Below w.heap.size w w1) := hb1
  have HO1 : Hid (Own w1 w.heap.size (l ++ [o7, o8])) := hO1
  clear hb1 hO1
  go_wp2_with fail
  refine (mcafee_any _ (l.length + 2) l _ HV.out (.inr ⟨_, _, rfl, HO1.out.head⟩)).mono ?_
  rintro e w2 ⟨g1, rfl, hg1, hb2, hrow2⟩
  have HB2 : Hid (Below w.heap.size w w2) := HB1.out.trans (hb2.mono HB1.out.size)
  have HO2 : Hid (Own w2 w.heap.size (l ++ [o7, o8])) := HO1.out.below hb2 HO1.out.lt
  have HG1 : Hid (w.heap.size ≤ g1) := Nat.le_trans HB1.out.size hg1
  have HW2 : Hid (w2.rowIs g1 3 l.length (fun i => .int .i64 (Mk.mcF l i))) := hrow2
  clear hb2 hrow2 hg1
  go_wp2_with fail
  refine (still_any w.heap.size a cap l _ hn HO2.out (HR.out.below HB2.out)).mono ?_
  rintro e w3 ⟨rfl, m3, hw3⟩
  have hb3 : Below w2.heap.size w2 w3 := by rw [hw3]; exact below_drewN (Below.refl _ _) _
  have HB3 : Hid (Below w.heap.size w w3) := HB2.out.trans (hb3.mono HB2.out.size)
  have HW3 : Hid (w3.rowIs g1 3 l.length (fun i => .int .i64 (Mk.mcF l i))) := row_below HW2.out hb3 (World.rowIs.lt HW2.out)
  clear hw3 hb3
  go_wp2_with fail
  refine (theirs_any a cap l _ hn (HR.out.below HB3.out)).mono ?_
  rintro e w4 ⟨a', cap', rfl, hR4, hb4⟩
  have HB4 : Hid (Below w.heap.size w w4) := HB3.out.trans (hb4.mono HB3.out.size)
  have HR4 : Hid (Rd w4 a' l) := hR4
  have HW4 : Hid (w4.rowIs g1 3 l.length (fun i => .int .i64 (Mk.mcF l i))) := row_below HW3.out hb4 (World.rowIs.lt HW3.out)
  clear hb4 hR4
  go_wp2_with fail
  refine (rmcafee_any a' cap' l _ HV.out HR4.out).mono ?_
  rintro e w5 ⟨g2, rfl, hg2, hb5, hrow5⟩
  have HB5 : Hid (Below w.heap.size w w5) := HB4.out.trans (hb5.mono HB4.out.size)
  have HW5 : Hid (w5.rowIs g1 3 l.length (fun i => .int .i64 (Mk.mcF l i))) := row_below HW4.out hb5 (World.rowIs.lt HW4.out)
  have HX5 : Hid (w5.rowIs g2 3 l.length (fun i => .int .i64 (Mk.mcF l i))) := hrow5
  clear hb5 hrow5 hg2
  go_wp2_with fail
  refine (same_some g1 g2 l.length (Mk.mcF l) _ hn HW5.out HX5.out).mono ?_
  rintro e w6 ⟨rfl, m6, hw6⟩
  have hb6 : Below w5.heap.size w5 w6 := by rw [hw6]; exact below_drewN (Below.refl _ _) _
  have HB6 : Hid (Below w.heap.size w w6) := HB5.out.trans (hb6.mono HB5.out.size)
  have HW6 : Hid (w6.rowIs g1 3 l.length (fun i => .int .i64 (Mk.mcF l i))) := row_below HW5.out hb6 (World.rowIs.lt HW5.out)
  clear hw6 hb6
  go_wp2_with (go_at_call 18; refine (num_any _ _).mono ?_; rintro e w7 ⟨rfl, hw7⟩; obtain rfl := hw7.symm)
  go_ret2
  exact ⟨g1, rfl, HG1.out, HB6.out, HW6.out⟩

end Go.Proofs.YtljeahgpkeohlaaGreatDoor
