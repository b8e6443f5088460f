import Derived.Test.YtmebcdpdpcpnmabDoorKZG
import Derived.Test.YtmebcdpdpcpnmabDoorKZF
namespace Go.Proofs.YtmebcdpdpcpnmabDoor
open Go.RowKit

set_option maxRecDepth 100000 in
set_option maxHeartbeats 2000000 in
theorem flow_any (d : Mk.Dd) (hd : d.Ok) (gi : Nat) (x : Nat → Int) (w : World) (hr : w.rowIs gi 3 3 (fun i => .int .i64 (x i))) (hb : ∀ i, i < 3 → -100000 ≤ x i ∧ x i ≤ 100000) :
    Calls Tryd.prog 14 #[ddV d, .slice (some ⟨gi, 0, none⟩) 3 3] w fun e w' => e = .returned (.tuple #[]) ∧ w'.rowIs gi 3 3 (fun i => .int .i64 (Mk.flowI d x i)) ∧ Only (fun k => k = gi) w w' := by
  obtain ⟨dw, who, v, a, b⟩ := d
  have hw : dw < 9 := hd.w
  have hv : v < 2 := hd.v
  have ha : a ≤ 9999 := hd.a
  have hv' : (v : Int) < 2 := by omega
  have HB : Hid (Below w.heap.size w (w.alloc (.cells #[.int .i64 (dw : Int), .int .i64 (who : Int), .int .i64 (v : Int), .int .i64 (a : Int), .int .i64 (b : Int)] 29))) := (Below.refl _ _).alloc (Nat.le_refl _) _
  have HC : Hid (∀ i u, (#[.int .i64 (dw : Int), .int .i64 (who : Int), .int .i64 (v : Int), .int .i64 (a : Int), .int .i64 (b : Int)] : Array Value)[i]? = some u → (w.alloc (.cells #[.int .i64 (dw : Int), .int .i64 (who : Int), .int .i64 (v : Int), .int .i64 (a : Int), .int .i64 (b : Int)] 29)).cell? ⟨w.heap.size, i, none⟩ = some u) := fun i u h => by simpa using h
  have hr1 : (w.alloc (.cells #[.int .i64 (dw : Int), .int .i64 (who : Int), .int .i64 (v : Int), .int .i64 (a : Int), .int .i64 (b : Int)] 29)).rowIs gi 3 3 (fun i => .int .i64 (x i)) := World.rowIs.alloc hr _
  have hne : gi ≠ w.heap.size := by have := hr.lt; omega
  have hfl : ∀ j y, ((w.alloc (.cells #[.int .i64 (dw : Int), .int .i64 (who : Int), .int .i64 (v : Int), .int .i64 (a : Int), .int .i64 (b : Int)] 29)).setCell ⟨gi, j, none⟩ (.int .i64 y)).rowIs gi 3 3 (fun i => .int .i64 (upd x j y i)) ∧ Only (fun k => k = gi) w ((w.alloc (.cells #[.int .i64 (dw : Int), .int .i64 (who : Int), .int .i64 (v : Int), .int .i64 (a : Int), .int .i64 (b : Int)] 29)).setCell ⟨gi, j, none⟩ (.int .i64 y)) := fun j y =>
    ⟨(hr1.set j _).congr (fun i hi => by unfold upd; split <;> rfl), Only.set (S := fun k => k = gi) (Only.of_below HB.out) (k := gi) rfl _⟩
  have HFl := (show Hid _ from hfl)
  unfold ddV
  clear hd hfl
  go_enter Tryd.func14, Tryd.ntmps14
  go_upto_region 1 with fail
  generalize w.alloc (.cells #[.int .i64 (dw : Int), .int .i64 (who : Int), .int .i64 (v : Int), .int .i64 (a : Int), .int .i64 (b : Int)] 29) = W1 at *
  have x0 := HC.out 0 _ rfl
  have x2 := HC.out 2 _ rfl
  have x3 := HC.out 3 _ rfl
  have b0 := hb 0 (by omega)
  have b1 := hb (1 + v) (by omega)
  have r0 := hr1.cell (i := 0) (by omega)
  have r1 := hr1.cell (i := 1 + v) (by omega)
  have z0 := hr1.frozen 0
  have z1 := hr1.frozen (1 + v)
  have h9 : dw = 0 ∨ dw = 1 ∨ dw = 2 ∨ dw = 3 ∨ 4 ≤ dw := by omega
  rcases h9 with rfl | rfl | rfl | rfl | h4
  · have HR := (show Hid _ from HFl.out (0) (x 0 + a))
    go_wp2_with fail
    go_region
    (try simp only [Exit.inBlock]); refine bodyPost_end (results_none rfl _ _ _) rfl ?_
    exact ⟨rfl, HR.out.1, HR.out.2.next (Below.refl _ _).drew⟩
  · have HR := (show Hid _ from HFl.out (0) (x 0 - a))
    go_wp2_with fail
    go_region
    (try simp only [Exit.inBlock]); refine bodyPost_end (results_none rfl _ _ _) rfl ?_
    exact ⟨rfl, HR.out.1, HR.out.2.next (Below.refl _ _).drew⟩
  · have HR := (show Hid _ from HFl.out (1 + v) (x (1 + v) + a))
    go_wp2_with fail
    go_region
    (try simp only [Exit.inBlock]); refine bodyPost_end (results_none rfl _ _ _) rfl ?_
    exact ⟨rfl, HR.out.1, HR.out.2.next (Below.refl _ _).drew⟩
  · have HR := (show Hid _ from HFl.out (1 + v) (x (1 + v) - a))
    go_wp2_with fail
    go_region
    (try simp only [Exit.inBlock]); refine bodyPost_end (results_none rfl _ _ _) rfl ?_
    exact ⟨rfl, HR.out.1, HR.out.2.next (Below.refl _ _).drew⟩
  · have e0 : ((dw : Int) == 0) = false := by simp; omega
    have e1 : ((dw : Int) == 1) = false := by simp; omega
    have e2 : ((dw : Int) == 2) = false := by simp; omega
    have e3 : ((dw : Int) == 3) = false := by simp; omega
    have HE : Hid (Mk.flowI ⟨dw, who, v, a, b⟩ x = x) := (by
      have h5 : dw = 4 ∨ dw = 5 ∨ dw = 6 ∨ dw = 7 ∨ dw = 8 := by omega
      rcases h5 with rfl | rfl | rfl | rfl | rfl <;> rfl : Mk.flowI ⟨dw, who, v, a, b⟩ x = x)
    have HR : Hid (W1.rowIs gi 3 3 (fun i => .int .i64 (x i)) ∧ Only (fun k => k = gi) w W1) := ⟨hr1, Only.of_below HB.out⟩
    go_wp2_with fail
    (try simp only [Exit.inBlock]); refine bodyPost_end (results_none rfl _ _ _) rfl ?_
    rw [HE.out]
    exact ⟨rfl, HR.out.1, HR.out.2⟩

end Go.Proofs.YtmebcdpdpcpnmabDoor
