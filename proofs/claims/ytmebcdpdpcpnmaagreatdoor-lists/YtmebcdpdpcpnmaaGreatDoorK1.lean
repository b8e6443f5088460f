import Derived.Test.YtmebcdpdpcpnmaaGreatDoorG2
namespace Go.Proofs.YtmebcdpdpcpnmaaGreatDoor
open Go.RowKit

/-- the two orders of the caller's that lie in the spare room -/
def o7 : Mk.Ord := ⟨false, 7, 0⟩
def o8 : Mk.Ord := ⟨false, 8, 0⟩
theorem get7 (l : List Mk.Ord) (h : l.length < (l ++ [o7, o8]).length) : (l ++ [o7, o8])[l.length] = o7 := by simp
theorem get8 (l : List Mk.Ord) (h : l.length + 1 < (l ++ [o7, o8]).length) : (l ++ [o7, o8])[l.length + 1] = o8 := by simp

/-- copy of no order -/
theorem copy_none (w : World) (g : Nat) (dLen dCap : Nat) (a : Option Addr) (cap ty : Nat) :
    (Builtin.copy_ #[31, 31] ty #[.slice (some ⟨g, 0, none⟩) dLen dCap, .slice a 0 cap]).run Tryz.prog w = .ok (.int .i64 0) w := by
  obtain ⟨i, hi, hzz⟩ := Option.map_eq_some_iff.1 Tryz.infoOrder
  have hmin : Nat.min 0 dLen = 0 := Nat.min_eq_left (Nat.zero_le _)
  cases a with
  | none => simp [Builtin.copy_, run_underlying Tryz.underlying31, Builtin.lenOf, Builtin.firstCells, sizeOf, typeInfo, hi, hmin, goInt, storeCells]
  | some a =>
    have hl := run_loadCells_list (P := Tryz.prog) w a [] (fun j v h => by simp at h)
    simp at hl
    simp [Builtin.copy_, run_underlying Tryz.underlying31, Builtin.lenOf, Builtin.firstCells, sizeOf, typeInfo, hi, hmin, goInt, storeCells, hl]

/-- copy of any orders into a row of the call's own -/
theorem copy_any (w : World) (g m dLen dCap : Nat) (f : Nat → Value) (a : Option Addr) (cap : Nat) (l : List Mk.Ord) (hg : w.rowIs g 123 m f) (hd : l.length ≤ dLen) (hm : l.length * 3 ≤ m) (hR : Rd w a l) :
    ∃ W, (∀ ty, (Builtin.copy_ #[31, 31] ty #[.slice (some ⟨g, 0, none⟩) dLen dCap, .slice a l.length cap]).run Tryz.prog w = .ok (.int .i64 (l.length : Int)) W) ∧
      (∀ B, B ≤ g → Below B w W) ∧ W.rowIs g 123 m (fun j => if j < l.length * 3 then cellOf l j else f j) := by
  rcases hR with rfl | ⟨b, off, rfl, hR⟩
  · exact ⟨w, fun ty => copy_none w g dLen dCap a cap ty, fun B _ => Below.refl _ _, World.rowIs.congr hg (fun j _ => by simp)⟩
  · exact copy_orders w g m dLen dCap f b off cap l hg hd hm hR

theorem cellOf_left (l r : List Mk.Ord) {j : Nat} (hj : j < l.length * 3) : cellOf (l ++ r) j = cellOf l j := by
  unfold cellOf
  have : (l ++ r).getD (j / 3) Mk.ozero = l.getD (j / 3) Mk.ozero := by simp [List.getD, List.getElem?_append_left (show j / 3 < l.length by omega)]
  rw [this]

set_option maxRecDepth 100000 in
set_option maxHeartbeats 1000000 in
theorem roomy_any (a : Option Addr) (cap : Nat) (l : List Mk.Ord) (w : World) (hn : l.length ≤ 1048576) (hR : Rd w a l) :
    Calls Tryz.prog 38 #[.slice a l.length cap] w fun e w' => e = .returned (.slice (some ⟨w.heap.size, 0, none⟩) l.length (l.length + 2)) ∧ Below w.heap.size w w' ∧ Own w' w.heap.size (l ++ [o7, o8]) := by
  obtain ⟨W1, hmk, hb1, hz1, f, hrow1⟩ := make_orders w (l.length + 2) (by omega)
  obtain ⟨W2, hcp, hb2, hrow2⟩ := copy_any W1 w.heap.size ((l.length + 2) * 3) (l.length + 2) (l.length + 2) f a cap l hrow1 (by omega) (by omega) (hR.below hb1)
  rw [show ((l.length + 2 : Nat) : Int) = (l.length : Int) + 2 from by omega] at hmk
  have HB2 : Hid (Below w.heap.size w W2) := hb1.trans (hb2 _ (Nat.le_refl _))
  have o0 := World.rowIs.cell hrow2 (i := l.length * 3) (by omega)
  have o1 := World.rowIs.cell hrow2 (i := l.length * 3 + 1) (by omega)
  have o2 := World.rowIs.cell hrow2 (i := l.length * 3 + 2) (by omega)
  have z0 := World.rowIs.frozen hrow2 (l.length * 3)
  have z1 := World.rowIs.frozen hrow2 (l.length * 3 + 1)
  have z2 := World.rowIs.frozen hrow2 (l.length * 3 + 2)
  have HO2 : Hid (W2.rowIs w.heap.size 123 ((l.length + 2) * 3) (fun j => if j < l.length * 3 then cellOf l j else f j)) := hrow2
  rw [if_neg (by omega)] at o0 o1 o2
  clear hR hb1 hb2 hrow1 hrow2
  go_enter Tryz.func38, Tryz.ntmps38
  go_upto_region 5 with fail
  have HO3 : Hid (((((W2.setCell ⟨w.heap.size, l.length * 3, none⟩ (.bool false)).setCell ⟨w.heap.size, l.length * 3 + 1, none⟩ (.int .i64 7)).setCell ⟨w.heap.size, l.length * 3 + 2, none⟩ (.int .i64 0))).rowIs w.heap.size 123 ((l.length + 2) * 3) (fun j => if j < (l.length + 1) * 3 then cellOf (l ++ [o7, o8]) j else f j)) := by
    refine World.rowIs.congr (((World.rowIs.set HO2.out _ _).set _ _).set _ _) (fun j hj => ?_)
    by_cases h2 : j = l.length * 3 + 2
    · rw [if_pos h2, if_pos (by omega), h2]
      have := cellOf_2 (l ++ [o7, o8]) (i := l.length) (by simp)
      rw [get7] at this
      exact this.symm
    · rw [if_neg h2]
      by_cases h1 : j = l.length * 3 + 1
      · rw [if_pos h1, if_pos (by omega), h1]
        have := cellOf_1 (l ++ [o7, o8]) (i := l.length) (by simp)
        rw [get7] at this
        exact this.symm
      · rw [if_neg h1]
        by_cases h0 : j = l.length * 3
        · rw [if_pos h0, if_pos (by omega), h0]
          have := cellOf_0 (l ++ [o7, o8]) (i := l.length) (by simp)
          rw [get7] at this
          exact this.symm
        · rw [if_neg h0]
          by_cases h : j < l.length * 3
          · rw [if_pos h, if_pos (by omega), cellOf_left l _ h]
          · rw [if_neg h, if_neg (by omega)]
  have HB3 : Hid (Below w.heap.size w (((W2.setCell ⟨w.heap.size, l.length * 3, none⟩ (.bool false)).setCell ⟨w.heap.size, l.length * 3 + 1, none⟩ (.int .i64 7)).setCell ⟨w.heap.size, l.length * 3 + 2, none⟩ (.int .i64 0))) := ((HB2.out.setCell (Nat.le_refl _) _).setCell (Nat.le_refl _) _).setCell (Nat.le_refl _) _
  generalize ((W2.setCell ⟨w.heap.size, l.length * 3, none⟩ (.bool false)).setCell ⟨w.heap.size, l.length * 3 + 1, none⟩ (.int .i64 7)).setCell ⟨w.heap.size, l.length * 3 + 2, none⟩ (.int .i64 0) = W3 at *
  clear o0 o1 o2 z0 z1 z2 HO2 HB2 hmk hcp
  have o0 := World.rowIs.cell HO3.out (i := (l.length + 1) * 3) (by omega)
  have o1 := World.rowIs.cell HO3.out (i := (l.length + 1) * 3 + 1) (by omega)
  have o2 := World.rowIs.cell HO3.out (i := (l.length + 1) * 3 + 2) (by omega)
  have z0 := World.rowIs.frozen HO3.out ((l.length + 1) * 3)
  have z1 := World.rowIs.frozen HO3.out ((l.length + 1) * 3 + 1)
  have z2 := World.rowIs.frozen HO3.out ((l.length + 1) * 3 + 2)
  rw [if_neg (by omega)] at o0 o1 o2
  go_wp2
  go_ret
  refine ⟨rfl, ((HB3.out.setCell (Nat.le_refl _) _).setCell (Nat.le_refl _) _).setCell (Nat.le_refl _) _, ?_⟩
  unfold Own
  rw [show (l ++ [o7, o8]).length * 3 = (l.length + 2) * 3 by simp]
  refine World.rowIs.congr (((World.rowIs.set HO3.out _ _).set _ _).set _ _) (fun j hj => ?_)
  by_cases h2 : j = (l.length + 1) * 3 + 2
  · rw [if_pos h2, h2]
    have := cellOf_2 (l ++ [o7, o8]) (i := l.length + 1) (by simp)
    rw [get8] at this
    exact this.symm
  · rw [if_neg h2]
    by_cases h1 : j = (l.length + 1) * 3 + 1
    · rw [if_pos h1, h1]
      have := cellOf_1 (l ++ [o7, o8]) (i := l.length + 1) (by simp)
      rw [get8] at this
      exact this.symm
    · rw [if_neg h1]
      by_cases h0 : j = (l.length + 1) * 3
      · rw [if_pos h0, h0]
        have := cellOf_0 (l ++ [o7, o8]) (i := l.length + 1) (by simp)
        rw [get8] at this
        exact this.symm
      · rw [if_neg h0, if_pos (by omega)]

end Go.Proofs.YtmebcdpdpcpnmaaGreatDoor
