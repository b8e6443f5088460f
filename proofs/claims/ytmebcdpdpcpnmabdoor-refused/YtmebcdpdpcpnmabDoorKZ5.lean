import Derived.Test.YtmebcdpdpcpnmabDoorKZ4
namespace Go.Proofs.YtmebcdpdpcpnmabDoor
open Go.RowKit

theorem dig0 : Mk.dig 0 = ⟨#[48]⟩ := by rw [Mk.dig_small (by omega)]; rfl
theorem dig1 : Mk.dig 1 = ⟨#[49]⟩ := by rw [Mk.dig_small (by omega)]; rfl
theorem dig2 : Mk.dig 2 = ⟨#[50]⟩ := by rw [Mk.dig_small (by omega)]; rfl
theorem dig5 : Mk.dig 5 = ⟨#[53]⟩ := by rw [Mk.dig_small (by omega)]; rfl
theorem dig20 : Mk.dig 20 = ⟨#[50, 48]⟩ := by rw [Mk.dig_great (by omega), Mk.dig_small (by omega)]; rfl
theorem dig50 : Mk.dig 50 = ⟨#[53, 48]⟩ := by rw [Mk.dig_great (by omega), Mk.dig_small (by omega)]; rfl
theorem dig250 : Mk.dig 250 = ⟨#[50, 53, 48]⟩ := by rw [Mk.dig_great (by omega), Mk.dig_great (by omega), Mk.dig_small (by omega)]; rfl
theorem dig750 : Mk.dig 750 = ⟨#[55, 53, 48]⟩ := by rw [Mk.dig_great (by omega), Mk.dig_great (by omega), Mk.dig_small (by omega)]; rfl
theorem dig1000 : Mk.dig 1000 = ⟨#[49, 48, 48, 48]⟩ := by rw [Mk.dig_great (by omega), Mk.dig_great (by omega), Mk.dig_great (by omega), Mk.dig_small (by omega)]; rfl

def sT1 : ByteArray := ⟨#[48, 32, 49, 32, 112, 97, 121, 32, 49, 48, 48, 48]⟩
def sT2 : ByteArray := ⟨#[49, 32, 49, 32, 98, 114, 105, 110, 103, 32, 48, 32, 50, 48]⟩
def sT3 : ByteArray := ⟨#[48, 32, 50, 32, 98, 117, 121, 32, 48, 32, 53, 48, 32, 53]⟩
def sD1 : Mk.Dd := ⟨0, 0, 0, 1000, 0⟩
def sD2 : Mk.Dd := ⟨2, 1, 0, 20, 0⟩
def sD3 : Mk.Dd := ⟨4, 0, 0, 50, 5⟩
theorem sE1 : sD1.cmd 1 = sT1 := by
  show Mk.dig 0 ++ ⟨#[32]⟩ ++ Mk.dig 1 ++ ⟨#[32]⟩ ++ (⟨#[112, 97, 121, 32]⟩ ++ Mk.dig 1000) = sT1
  rw [dig0, dig1, dig1000]; rfl
theorem sE2 : sD2.cmd 1 = sT2 := by
  show Mk.dig 1 ++ ⟨#[32]⟩ ++ Mk.dig 1 ++ ⟨#[32]⟩ ++ (⟨#[98, 114, 105, 110, 103, 32]⟩ ++ Mk.dig 0 ++ ⟨#[32]⟩ ++ Mk.dig 20) = sT2
  rw [dig0, dig1, dig20]; rfl
theorem sE3 : sD3.cmd 2 = sT3 := by
  show Mk.dig 0 ++ ⟨#[32]⟩ ++ Mk.dig 2 ++ ⟨#[32]⟩ ++ (⟨#[98, 117, 121, 32]⟩ ++ Mk.dig 0 ++ ⟨#[32]⟩ ++ Mk.dig 50 ++ ⟨#[32]⟩ ++ Mk.dig 5) = sT3
  rw [dig0, dig2, dig50, dig5]; rfl
theorem sO1 : sD1.Ok := ⟨by decide, by decide, by decide, by decide, by decide, rfl, by decide⟩
theorem sO2 : sD2.Ok := ⟨by decide, by decide, by decide, by decide, by decide, rfl, by decide⟩
theorem sO3 : sD3.Ok := ⟨by decide, by decide, by decide, by decide, by decide, rfl, by decide⟩
theorem sR1 : Mk.readP sT1 = some (sD1.read 1) := by rw [← sE1]; exact Mk.read_cmd sO1 (by decide)
theorem sR2 : Mk.readP sT2 = some (sD2.read 1) := by rw [← sE2]; exact Mk.read_cmd sO2 (by decide)
theorem sR3 : Mk.readP sT3 = some (sD3.read 2) := by rw [← sE3]; exact Mk.read_cmd sO3 (by decide)
/-- the three markets of the example -/
def sM1 : Mk.Mkt := { Mk.Mkt.new with cf := upd Mk.Mkt.new.cf 0 1000, ls := upd Mk.Mkt.new.ls 0 1, tx := upd Mk.Mkt.new.tx 0 ⟨#[]⟩, er := upd Mk.Mkt.new.er 0 0, disk := Mk.Mkt.new.disk ++ Mk.frame sT1 ++ sT1 }
def sM2 : Mk.Mkt := { sM1 with sf := upd sM1.sf 0 (upd (sM1.sf 0) 1 20), ls := upd sM1.ls 1 1, tx := upd sM1.tx 1 ⟨#[]⟩, er := upd sM1.er 1 0, disk := sM1.disk ++ Mk.frame sT2 ++ sT2 }
def sM3 : Mk.Mkt := { Mk.putM sM2 0 0 ⟨false, 50, 5⟩ with ls := upd sM2.ls 0 2, tx := upd sM2.tx 0 ⟨#[48]⟩, er := upd sM2.er 0 0, disk := sM2.disk ++ Mk.frame sT3 ++ sT3 }
theorem doM_next {M : Mk.Mkt} {s : ByteArray} {c : Mk.Cmd} (hr : Mk.readP s = some c) (h : (c.r : Int) = M.ls c.who + 1) : Mk.doM (Mk.allM M) M s = ((Mk.allM M c).1, (Mk.allM M c).2.1, { (Mk.allM M c).2.2 with ls := upd (Mk.allM M c).2.2.ls c.who c.r, tx := upd (Mk.allM M c).2.2.tx c.who (Mk.allM M c).1, er := upd (Mk.allM M c).2.2.er c.who (Mk.allM M c).2.1, disk := (Mk.allM M c).2.2.disk ++ Mk.frame s ++ s }) := by
  unfold Mk.doM
  rw [hr]
  simp only []
  rw [if_neg (by omega), if_neg (by omega), if_neg (by omega)]
theorem sS1 : Mk.doM (Mk.allM Mk.Mkt.new) Mk.Mkt.new sT1 = (⟨#[]⟩, 0, sM1) := by
  rw [doM_next sR1 (by decide)]; rfl
theorem sS2 : Mk.doM (Mk.allM sM1) sM1 sT2 = (⟨#[]⟩, 0, sM2) := by
  rw [doM_next sR2 (by decide)]; rfl
theorem sA3 : Mk.allM sM2 (sD3.read 2) = (⟨#[48]⟩, 0, Mk.putM sM2 0 0 ⟨false, 50, 5⟩) := by
  show Mk.orderM sM2 0 0 ⟨false, 50, 5⟩ = _
  unfold Mk.orderM
  rw [if_neg (by decide), if_neg (by decide), if_neg (by decide)]
  show (Mk.dig 0, 0, Mk.putM sM2 0 0 ⟨false, 50, 5⟩) = _
  rw [dig0]
theorem sS3 : Mk.doM (Mk.allM sM2) sM2 sT3 = (⟨#[48]⟩, 0, sM3) := by
  rw [doM_next sR3 (by decide), sA3]; rfl
theorem sI1 : AInv sM1 1 := by have h := all_step sT1 all_new; rw [sS1] at h; exact h
theorem sI2 : AInv sM2 2 := by have h := all_step sT2 sI1; rw [sS2] at h; exact h
theorem sI3 : AInv sM3 3 := by have h := all_step sT3 sI2; rw [sS3] at h; exact h
theorem sShow : Mk.showM sM3 = ⟨#[55, 53, 48, 43, 50, 53, 48, 32, 48, 43, 48, 32, 48, 43, 48, 59, 48, 43, 48, 32, 50, 48, 43, 48, 32, 48, 43, 48, 59, 48, 43, 48, 32, 48, 43, 48, 32, 48, 43, 48, 59, 48, 43, 48, 32, 48, 43, 48, 32, 48, 43, 48, 59, 48, 59, 117, 48, 66, 48, 64, 53, 48, 120, 53, 59, 117]⟩ := by
  show (((((((((((((((((((⟨#[]⟩ : ByteArray) ++ (Mk.dig 750 ++ ⟨#[43]⟩ ++ Mk.dig 250)) ++ ⟨#[32]⟩ ++ (Mk.dig 0 ++ ⟨#[43]⟩ ++ Mk.dig 0)) ++ ⟨#[32]⟩ ++ (Mk.dig 0 ++ ⟨#[43]⟩ ++ Mk.dig 0)) ++ ⟨#[59]⟩) ++ (Mk.dig 0 ++ ⟨#[43]⟩ ++ Mk.dig 0)) ++ ⟨#[32]⟩ ++ (Mk.dig 20 ++ ⟨#[43]⟩ ++ Mk.dig 0)) ++ ⟨#[32]⟩ ++ (Mk.dig 0 ++ ⟨#[43]⟩ ++ Mk.dig 0)) ++ ⟨#[59]⟩) ++ (Mk.dig 0 ++ ⟨#[43]⟩ ++ Mk.dig 0)) ++ ⟨#[32]⟩ ++ (Mk.dig 0 ++ ⟨#[43]⟩ ++ Mk.dig 0)) ++ ⟨#[32]⟩ ++ (Mk.dig 0 ++ ⟨#[43]⟩ ++ Mk.dig 0)) ++ ⟨#[59]⟩) ++ (Mk.dig 0 ++ ⟨#[43]⟩ ++ Mk.dig 0)) ++ ⟨#[32]⟩ ++ (Mk.dig 0 ++ ⟨#[43]⟩ ++ Mk.dig 0)) ++ ⟨#[32]⟩ ++ (Mk.dig 0 ++ ⟨#[43]⟩ ++ Mk.dig 0)) ++ ⟨#[59]⟩) ++ Mk.dig 0) ++ ⟨#[59, 117]⟩ ++ (Mk.dig 0 ++ ⟨#[66]⟩ ++ Mk.dig 0 ++ ⟨#[64]⟩ ++ Mk.dig 50 ++ ⟨#[120]⟩ ++ Mk.dig 5)) ++ ⟨#[59, 117]⟩ = _
  rw [dig0, dig5, dig20, dig50, dig250, dig750]
  rfl

set_option maxRecDepth 100000 in
set_option maxHeartbeats 1000000 in
theorem stands_any {LG : Mk.Mkt → ByteArray} (hS : PSide LG) (w : World) (hT : Tab w) : Calls Tryd.prog 9 #[] w fun e w' => e = .returned (.bool true) ∧ Below w.heap.size w w' := by
  have HS : Hid (PSide LG) := hS
  have HT : Hid (Tab w) := hT
  clear hS hT
  go_enter Tryd.func9, Tryd.ntmps9
  go_wp2_with fail
  refine (pnew_any _).mono ?_
  rintro e w1 ⟨rfl, hP1, hb1⟩
  have HB1 : Hid (Below w.heap.size w w1) := hb1
  clear hb1
  have HN1 : Hid (∀ k, PHas w.heap.size nilV k → w.heap.size ≤ k) := fun k h => by
    rcases h with rfl | ⟨v, _, h⟩
    · exact Nat.le_refl _
    · cases h
  have HD1 : Hid (Calls Tryd.prog 23 #[.pointer (some ⟨w.heap.size, 0, none⟩), .string sT1] w1 fun e w' => PDoT w.heap.size nilV (⟨#[]⟩, 0, sM1) w1 e w') := (by
    have h := HS.out.dos w.heap.size nilV Mk.Mkt.new 0 sT1 w1 all_new (by omega) (by decide) hP1 (HT.out.next HB1.out)
    rw [sS1] at h
    exact h : Calls Tryd.prog 23 #[.pointer (some ⟨w.heap.size, 0, none⟩), .string sT1] w1 fun e w' => PDoT w.heap.size nilV (⟨#[]⟩, 0, sM1) w1 e w')
  clear hP1
  go_wp2_with fail
  refine HD1.out.mono ?_
  rintro e w2 ⟨rfl, vb2, hP2, hO2, hN2⟩
  have HB2 : Hid (Below w.heap.size w w2) := below_only HB1.out hO2 HN1.out HB1.out.size
  have HN2 : Hid (∀ k, PHas w.heap.size vb2 k → w.heap.size ≤ k) := fun k h => (hN2 k h).elim (HN1.out k) (fun h => Nat.le_trans HB1.out.size h)
  clear hO2 hN2
  have HD2 : Hid (Calls Tryd.prog 23 #[.pointer (some ⟨w.heap.size, 0, none⟩), .string sT2] w2 fun e w' => PDoT w.heap.size vb2 (⟨#[]⟩, 0, sM2) w2 e w') := (by
    have h := HS.out.dos w.heap.size vb2 sM1 1 sT2 w2 sI1 (by omega) (by decide) hP2 (HT.out.next HB2.out)
    rw [sS2] at h
    exact h : Calls Tryd.prog 23 #[.pointer (some ⟨w.heap.size, 0, none⟩), .string sT2] w2 fun e w' => PDoT w.heap.size vb2 (⟨#[]⟩, 0, sM2) w2 e w')
  clear hP2
  go_wp2_with fail
  refine HD2.out.mono ?_
  rintro e w3 ⟨rfl, vb3, hP3, hO3, hN3⟩
  have HB3 : Hid (Below w.heap.size w w3) := below_only HB2.out hO3 HN2.out HB2.out.size
  have HN3 : Hid (∀ k, PHas w.heap.size vb3 k → w.heap.size ≤ k) := fun k h => (hN3 k h).elim (HN2.out k) (fun h => Nat.le_trans HB2.out.size h)
  clear hO3 hN3
  have HD3 : Hid (Calls Tryd.prog 23 #[.pointer (some ⟨w.heap.size, 0, none⟩), .string sT3] w3 fun e w' => PDoT w.heap.size vb3 (⟨#[48]⟩, 0, sM3) w3 e w') := (by
    have h := HS.out.dos w.heap.size vb3 sM2 2 sT3 w3 sI2 (by omega) (by decide) hP3 (HT.out.next HB3.out)
    rw [sS3] at h
    exact h : Calls Tryd.prog 23 #[.pointer (some ⟨w.heap.size, 0, none⟩), .string sT3] w3 fun e w' => PDoT w.heap.size vb3 (⟨#[48]⟩, 0, sM3) w3 e w')
  clear hP3
  go_wp2_with fail
  refine HD3.out.mono ?_
  rintro e w4 ⟨rfl, vb4, hP4, hO4, hN4⟩
  have HB4 : Hid (Below w.heap.size w w4) := below_only HB3.out hO4 HN3.out HB3.out.size
  have HN4 : Hid (∀ k, PHas w.heap.size vb4 k → w.heap.size ≤ k) := fun k h => (hN4 k h).elim (HN3.out k) (fun h => Nat.le_trans HB3.out.size h)
  clear hO4 hN4
  have HSh : Hid (Calls Tryd.prog 20 #[.pointer (some ⟨w.heap.size, 0, none⟩)] w4 fun e w' => e = .returned (.string ⟨#[55, 53, 48, 43, 50, 53, 48, 32, 48, 43, 48, 32, 48, 43, 48, 59, 48, 43, 48, 32, 50, 48, 43, 48, 32, 48, 43, 48, 59, 48, 43, 48, 32, 48, 43, 48, 32, 48, 43, 48, 59, 48, 43, 48, 32, 48, 43, 48, 32, 48, 43, 48, 59, 48, 59, 117, 48, 66, 48, 64, 53, 48, 120, 53, 59, 117]⟩) ∧ Below w4.heap.size w4 w') := (by
    have h := pshow_any w.heap.size vb4 sM3 w4 sI3.well.fine hP4 (HT.out.next HB4.out)
    rw [sShow] at h
    exact h : Calls Tryd.prog 20 #[.pointer (some ⟨w.heap.size, 0, none⟩)] w4 fun e w' => e = .returned (.string ⟨#[55, 53, 48, 43, 50, 53, 48, 32, 48, 43, 48, 32, 48, 43, 48, 59, 48, 43, 48, 32, 50, 48, 43, 48, 32, 48, 43, 48, 59, 48, 43, 48, 32, 48, 43, 48, 32, 48, 43, 48, 59, 48, 43, 48, 32, 48, 43, 48, 32, 48, 43, 48, 59, 48, 59, 117, 48, 66, 48, 64, 53, 48, 120, 53, 59, 117]⟩) ∧ Below w4.heap.size w4 w')
  clear hP4
  go_wp2_with fail
  refine HSh.out.mono ?_
  rintro e w5 ⟨rfl, hb5⟩
  have HB5 : Hid (Below w.heap.size w w5) := HB4.out.trans (hb5.mono HB4.out.size)
  clear hb5
  go_wp2_with fail
  go_ret
  exact ⟨rfl, HB5.out⟩

end Go.Proofs.YtmebcdpdpcpnmabDoor
