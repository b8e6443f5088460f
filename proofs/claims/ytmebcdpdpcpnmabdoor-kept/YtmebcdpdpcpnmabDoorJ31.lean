import Derived.Test.YtmebcdpdpcpnmabDoorJ30
import Derived.Test.YtmebcdpdpcpnmabDoorJ28
namespace Go.Proofs.YtmebcdpdpcpnmabDoor
open Go.RowKit

/-- one order is settled by the program (the house's part comes at the end) -/
def Mk.settleM (A : Mk.Mkt) (v who : Nat) (o : Mk.Ord) (n pay get : Int) : Mk.Mkt := { Mk.dealM A v who o n pay get with house := A.house }

set_option maxRecDepth 100000 in
set_option maxHeartbeats 1000000 in
theorem release_wide (p i : Nat) (f h n : Int) (w : World) (c0 : w.cell? ⟨p, i, none⟩ = some (.int .i64 f)) (c1 : w.cell? ⟨p, i + 1, none⟩ = some (.int .i64 h)) (z0 : w.frozen? ⟨p, i, none⟩ = false) (z1 : w.frozen? ⟨p, i + 1, none⟩ = false) (hf : 0 ≤ f ∧ f ≤ 100000) (hh : 0 ≤ h ∧ h ≤ 100000) (hn : 0 ≤ n ∧ n ≤ 9999) :
    Calls Tryd.prog 69 #[.pointer (some ⟨p, i, none⟩), .int .i64 n] w fun e w' => e = .returned (.tuple #[]) ∧ w' = (w.setCell ⟨p, i + 1, none⟩ (.int .i64 (h - n))).setCell ⟨p, i, none⟩ (.int .i64 (f + n)) := by
  have hne : (⟨p, i, none⟩ : Addr) ≠ ⟨p, i + 1, none⟩ := by simp
  have d0 : (w.setCell ⟨p, i + 1, none⟩ (.int .i64 (h - n))).cell? ⟨p, i, none⟩ = some (.int .i64 f) := cell_set_ne (by omega) c0
  have y0 : (w.setCell ⟨p, i + 1, none⟩ (.int .i64 (h - n))).frozen? ⟨p, i, none⟩ = false := by simpa using z0
  go_enter Tryd.func69, Tryd.ntmps69
  go_wp2_with fail
  refine bodyPost_end (v := .tuple #[]) ?_ rfl ⟨rfl, rfl⟩
  simp [results, Tryd.results69, go_sem]

set_option maxRecDepth 100000 in
set_option maxHeartbeats 4000000 in
theorem settle_any (p : Nat) (vb : Nat → Value) (A : Mk.Mkt) (v who : Nat) (num : Int) (sell : Bool) (pr q : Int) (ga : Option Addr) (gn gc : Nat) (V pay get n : Int) (w : World) (hm : Mk.Mid A v) (hP : PM w p vb A) (hw : who < 4) (hv : v < 2) (bp : 1 ≤ pr ∧ pr ≤ 99) (bq : 1 ≤ q ∧ q ≤ 20) (bn : 0 ≤ n ∧ n ≤ 20) (bpay : 0 ≤ pay ∧ pay ≤ 100) (bget : 0 ≤ get ∧ get ≤ 100) :
    Calls Tryd.prog 72 #[.pointer (some ⟨p, 0, none⟩), eV num who sell pr q, .int .i64 v, trV ga gn gc V pay get, .int .i64 n] w fun e w' =>
      e = .returned (.tuple #[]) ∧ PM w' p vb (Mk.settleM A v who ⟨sell, pr, q⟩ n pay get) ∧ Only (One p) w w' := by
  have HM : Hid (Mk.Mid A v) := hm
  have hb0 : Below w.heap.size w ((w.alloc (.cells #[.int .i64 num, .int .i64 (who : Int), .bool sell, .int .i64 pr, .int .i64 q] 86)).alloc (.cells #[.slice ga gn gc, .int .i64 V, .int .i64 pay, .int .i64 get] 115)) := ((Below.refl _ _).alloc (Nat.le_refl _) _).alloc (by simp) _
  have HB1 : Hid (Below w.heap.size w ((w.alloc (.cells #[.int .i64 num, .int .i64 (who : Int), .bool sell, .int .i64 pr, .int .i64 q] 86)).alloc (.cells #[.slice ga gn gc, .int .i64 V, .int .i64 pay, .int .i64 get] 115))) := hb0
  have HP1 : Hid (PM ((w.alloc (.cells #[.int .i64 num, .int .i64 (who : Int), .bool sell, .int .i64 pr, .int .i64 q] 86)).alloc (.cells #[.slice ga gn gc, .int .i64 V, .int .i64 pay, .int .i64 get] 115)) p vb A) := hP.below hb0
  have HE1 : Hid (∀ i u, (#[.int .i64 num, .int .i64 (who : Int), .bool sell, .int .i64 pr, .int .i64 q] : Array Value)[i]? = some u → ((w.alloc (.cells #[.int .i64 num, .int .i64 (who : Int), .bool sell, .int .i64 pr, .int .i64 q] 86)).alloc (.cells #[.slice ga gn gc, .int .i64 V, .int .i64 pay, .int .i64 get] 115)).cell? ⟨w.heap.size, i, none⟩ = some u) := fun i u h => by
    have h1 : (w.alloc (.cells #[.int .i64 num, .int .i64 (who : Int), .bool sell, .int .i64 pr, .int .i64 q] 86)).cell? ⟨w.heap.size, i, none⟩ = some u := by simpa using h
    exact (((Below.refl _ _).alloc (Nat.le_refl _) _ : Below _ (w.alloc (.cells #[.int .i64 num, .int .i64 (who : Int), .bool sell, .int .i64 pr, .int .i64 q] 86)) _).cell (p := ⟨w.heap.size, i, none⟩) (by simp)).trans h1
  have HT1 : Hid (∀ i u, (#[.slice ga gn gc, .int .i64 V, .int .i64 pay, .int .i64 get] : Array Value)[i]? = some u → ((w.alloc (.cells #[.int .i64 num, .int .i64 (who : Int), .bool sell, .int .i64 pr, .int .i64 q] 86)).alloc (.cells #[.slice ga gn gc, .int .i64 V, .int .i64 pay, .int .i64 get] 115)).cell? ⟨w.heap.size + 1, i, none⟩ = some u) := fun i u h => by
    have h0 : (w.alloc (.cells #[.int .i64 num, .int .i64 (who : Int), .bool sell, .int .i64 pr, .int .i64 q] 86)).heap.size = w.heap.size + 1 := by simp
    rw [← h0, World.cell?_alloc_new]
    exact h
  have hwl : w.heap.size + 1 < ((w.alloc (.cells #[.int .i64 num, .int .i64 (who : Int), .bool sell, .int .i64 pr, .int .i64 q] 86)).alloc (.cells #[.slice ga gn gc, .int .i64 V, .int .i64 pay, .int .i64 get] 115)).heap.size := by simp
  have hw' : (who : Int) < 4 := by omega
  have hv' : (v : Int) < 2 := by omega
  have hpl : p < w.heap.size := hP.lt (.inl rfl)
  have m1 := mul_bd3 (a := n) (b := pay) (A := 20) (B := 100) bn bpay
  have m2 := mul_bd3 (a := n) (b := get) (A := 20) (B := 100) bn bget
  clear hm hP hb0
  go_enter Tryd.func72, Tryd.ntmps72
  go_upto_region 1 with fail
  generalize (w.alloc (.cells #[.int .i64 num, .int .i64 (who : Int), .bool sell, .int .i64 pr, .int .i64 q] 86)).alloc (.cells #[.slice ga gn gc, .int .i64 V, .int .i64 pay, .int .i64 get] 115) = W1 at *
  have a0 := HE1.out 0 _ rfl
  have a1 := HE1.out 1 _ rfl
  have a2 := HE1.out 2 _ rfl
  have a3 := HE1.out 3 _ rfl
  have a4 := HE1.out 4 _ rfl
  go_wp2_with fail
  refine (potOf_any p v who num sell pr q W1 hw hv).mono ?_
  rintro e w2 ⟨rfl, hb2⟩
  have HB2 : Hid (Below w.heap.size w w2) := HB1.out.trans (hb2.mono HB1.out.size)
  have HP2 : Hid (PM w2 p vb A) := HP1.out.below hb2
  have HE2 : Hid (∀ i u, (#[.int .i64 num, .int .i64 (who : Int), .bool sell, .int .i64 pr, .int .i64 q] : Array Value)[i]? = some u → w2.cell? ⟨w.heap.size, i, none⟩ = some u) := fun i u h => (hb2.cell (p := ⟨w.heap.size, i, none⟩) (by show w.heap.size < _; omega)).trans (HE1.out i u h)
  have HT2 : Hid (∀ i u, (#[.slice ga gn gc, .int .i64 V, .int .i64 pay, .int .i64 get] : Array Value)[i]? = some u → w2.cell? ⟨w.heap.size + 1, i, none⟩ = some u) := fun i u h => (hb2.cell (p := ⟨w.heap.size + 1, i, none⟩) hwl).trans (HT1.out i u h)
  have hwl2 : w.heap.size + 1 < w2.heap.size := Nat.lt_of_lt_of_le hwl hb2.size
  clear hb2 a0 a1 a2 a3 a4
  have a0 := HE2.out 0 _ rfl
  have a1 := HE2.out 1 _ rfl
  have a2 := HE2.out 2 _ rfl
  have a3 := HE2.out 3 _ rfl
  have a4 := HE2.out 4 _ rfl
  go_wp2_with fail
  refine (needs_any num who sell pr q w2 bp bq).mono ?_
  rintro e w3 ⟨rfl, hb3⟩
  have HB3 : Hid (Below w.heap.size w w3) := HB2.out.trans (hb3.mono HB2.out.size)
  have HP3 : Hid (PM w3 p vb A) := HP2.out.below hb3
  have HE3 : Hid (∀ i u, (#[.int .i64 num, .int .i64 (who : Int), .bool sell, .int .i64 pr, .int .i64 q] : Array Value)[i]? = some u → w3.cell? ⟨w.heap.size, i, none⟩ = some u) := fun i u h => (hb3.cell (p := ⟨w.heap.size, i, none⟩) (by show w.heap.size < _; omega)).trans (HE2.out i u h)
  have HT3 : Hid (∀ i u, (#[.slice ga gn gc, .int .i64 V, .int .i64 pay, .int .i64 get] : Array Value)[i]? = some u → w3.cell? ⟨w.heap.size + 1, i, none⟩ = some u) := fun i u h => (hb3.cell (p := ⟨w.heap.size + 1, i, none⟩) hwl2).trans (HT2.out i u h)
  have hwl3 : w.heap.size + 1 < w3.heap.size := Nat.lt_of_lt_of_le hwl2 hb3.size
  clear hb3 a0 a1 a2 a3 a4
  obtain ⟨f0, f1⟩ := HP3.out.potF hv hw sell
  have bf : (0 ≤ potF A v who sell ∧ potF A v who sell ≤ 100000) ∧ (0 ≤ potH A v who sell ∧ potH A v who sell ≤ 100000) := by
    have q1 := HM.out.cf who hw
    have q2 := HM.out.ch who hw
    have q3 := HM.out.sf who hw
    have q4 := HM.out.sh who hw
    cases sell
    · exact ⟨⟨q1.1, by show A.cf who ≤ _; omega⟩, ⟨q2.1, by show A.ch who ≤ _; omega⟩⟩
    · exact ⟨⟨q3.1, by show A.sf v who ≤ _; omega⟩, ⟨q4.1, by show A.sh v who ≤ _; omega⟩⟩
  have bnd := needI_bd (sell := sell) bp bq
  have z0 := HP3.out.box.frozen (potAt v who sell)
  have z1 := HP3.out.box.frozen (potAt v who sell + 1)
  have HRl := (show Hid _ from release_wide p (potAt v who sell) (potF A v who sell) (potH A v who sell) (needI sell pr q) w3 f0 f1 z0 z1 bf.1 bf.2 ⟨bnd.1, by omega⟩)
  have HP4 := (show Hid _ from HP3.out.letGo hv hw sell pr q)
  have HO4 : Hid (Only (One p) w ((w3.setCell ⟨p, potAt v who sell + 1, none⟩ (.int .i64 (potH A v who sell - needI sell pr q))).setCell ⟨p, potAt v who sell, none⟩ (.int .i64 (potF A v who sell + needI sell pr q)))) := ((Only.of_below HB3.out).set (show One p p from rfl) _).set (show One p p from rfl) _
  clear f0 f1 z0 z1 bf bnd
  go_wp2_with fail
  refine Calls.mono HRl.out ?_
  rintro e w4 ⟨rfl, hw4⟩
  rw [← hw4] at HP4 HO4
  have HE4 : Hid (∀ i u, (#[.int .i64 num, .int .i64 (who : Int), .bool sell, .int .i64 pr, .int .i64 q] : Array Value)[i]? = some u → w4.cell? ⟨w.heap.size, i, none⟩ = some u) := fun i u h => by
    rw [hw4]
    have hne : w.heap.size ≠ p := by omega
    exact cell_set_ne (.inl hne) (cell_set_ne (.inl hne) (HE3.out i u h))
  have HT4 : Hid (∀ i u, (#[.slice ga gn gc, .int .i64 V, .int .i64 pay, .int .i64 get] : Array Value)[i]? = some u → w4.cell? ⟨w.heap.size + 1, i, none⟩ = some u) := fun i u h => by
    rw [hw4]
    have hne : w.heap.size + 1 ≠ p := by omega
    exact cell_set_ne (.inl hne) (cell_set_ne (.inl hne) (HT3.out i u h))
  clear hw4 HRl
  have HB4 : Hid (PM w4 p vb (Mk.holdM A v who ⟨sell, pr, q⟩ (-1))) := HP4.out
  clear HP4
  have bC : -100000 ≤ (Mk.holdM A v who ⟨sell, pr, q⟩ (-1)).cf who ∧ (Mk.holdM A v who ⟨sell, pr, q⟩ (-1)).cf who ≤ 100000 := by
    have h1 := HM.out.cf who hw
    have h5 := mul_bd3 (a := pr) (b := q) (A := 99) (B := 20) ⟨by omega, by omega⟩ ⟨by omega, by omega⟩
    cases sell
    · have h2 : (Mk.holdM A v who ⟨false, pr, q⟩ (-1)).cf who = A.cf who + pr * q := by simp [Mk.holdM, upd, Int.neg_mul]
      rw [h2]; omega
    · have h2 : (Mk.holdM A v who ⟨true, pr, q⟩ (-1)).cf who = A.cf who := by simp [Mk.holdM]
      rw [h2]; omega
  have bS : -100000 ≤ (Mk.holdM A v who ⟨sell, pr, q⟩ (-1)).sf v who ∧ (Mk.holdM A v who ⟨sell, pr, q⟩ (-1)).sf v who ≤ 100000 := by
    have h1 := HM.out.sf who hw
    cases sell
    · have h2 : (Mk.holdM A v who ⟨false, pr, q⟩ (-1)).sf v who = A.sf v who := by simp [Mk.holdM]
      rw [h2]; omega
    · have h2 : (Mk.holdM A v who ⟨true, pr, q⟩ (-1)).sf v who = A.sf v who + q := by simp [Mk.holdM, upd, Int.neg_mul]
      rw [h2]; omega
  have hHo : (Mk.holdM A v who ⟨sell, pr, q⟩ (-1)).house = A.house := by unfold Mk.holdM; split <;> rfl
  have HHo : Hid ((Mk.holdM A v who ⟨sell, pr, q⟩ (-1)).house = A.house) := hHo
  have hwp : IntKind.i64.wrap (n * pay) = n * pay := IntWalk.i64_in _ (by omega)
  have hwg : IntKind.i64.wrap (n * get) = n * get := IntWalk.i64_in _ (by omega)
  have HV : Hid (v < 2) := hv
  have HW : Hid (who < 4) := hw
  clear hHo
  have a1 := HE4.out 1 _ rfl
  go_upto_region 3 with fail
  go_quiet (fail)
  have hbq : Below w4.heap.size w4 (w4.drewN nq) := below_drewN (Below.refl _ _) nq
  have HB5 : Hid (PM (w4.drewN nq) p vb (Mk.holdM A v who ⟨sell, pr, q⟩ (-1))) := HB4.out.below hbq
  have HO5 : Hid (Only (One p) w (w4.drewN nq)) := HO4.out.next hbq
  have a2 : (w4.drewN nq).cell? ⟨w.heap.size, 2, none⟩ = some (.bool sell) := HE4.out 2 _ rfl
  have t2 : (w4.drewN nq).cell? ⟨w.heap.size + 1, 2, none⟩ = some (.int .i64 pay) := HT4.out 2 _ rfl
  have t3 : (w4.drewN nq).cell? ⟨w.heap.size + 1, 3, none⟩ = some (.int .i64 get) := HT4.out 3 _ rfl
  clear a1 hbq
  generalize w4.drewN nq = W5 at *
  cases sell
  · have HX : Hid (Mk.settleM A v who ⟨false, pr, q⟩ n pay get = { Mk.holdM A v who ⟨false, pr, q⟩ (-1) with
        cf := upd (Mk.holdM A v who ⟨false, pr, q⟩ (-1)).cf who ((Mk.holdM A v who ⟨false, pr, q⟩ (-1)).cf who - n * pay),
        sf := upd (Mk.holdM A v who ⟨false, pr, q⟩ (-1)).sf v (upd ((Mk.holdM A v who ⟨false, pr, q⟩ (-1)).sf v) who ((Mk.holdM A v who ⟨false, pr, q⟩ (-1)).sf v who + n)) }) := (by
      unfold Mk.settleM Mk.dealM
      rw [← HHo.out]
      rfl : Mk.settleM A v who ⟨false, pr, q⟩ n pay get = { Mk.holdM A v who ⟨false, pr, q⟩ (-1) with
        cf := upd (Mk.holdM A v who ⟨false, pr, q⟩ (-1)).cf who ((Mk.holdM A v who ⟨false, pr, q⟩ (-1)).cf who - n * pay),
        sf := upd (Mk.holdM A v who ⟨false, pr, q⟩ (-1)).sf v (upd ((Mk.holdM A v who ⟨false, pr, q⟩ (-1)).sf v) who ((Mk.holdM A v who ⟨false, pr, q⟩ (-1)).sf v who + n)) })
    generalize Mk.holdM A v who ⟨false, pr, q⟩ (-1) = B at *
    have f0 := HB5.out.ac hw (k := 0) (by omega)
    have z0 := HB5.out.box.frozen (who * 6)
    simp only [acF, Nat.add_zero] at f0
    go_upto_region 7 with fail
    go_region
    have HB6 : Hid (PM ((W5.setCell ⟨p, who * 6, none⟩ (.int .i64 (B.cf who - n * pay))).drew) p vb { B with cf := upd B.cf who (B.cf who - n * pay) }) := (HB5.out.setCf HW.out _).below (Below.refl _ _).drew
    have HO6 : Hid (Only (One p) w ((W5.setCell ⟨p, who * 6, none⟩ (.int .i64 (B.cf who - n * pay))).drew)) := (HO5.out.set (show One p p from rfl) _).next (Below.refl _ _).drew
    clear f0 z0 a2 t2 t3
    generalize (W5.setCell ⟨p, who * 6, none⟩ (.int .i64 (B.cf who - n * pay))).drew = W6 at *
    have f0 := HB6.out.slot hv hw
    have z0 := HB6.out.box.frozen (who * 6 + 2 + v * 2)
    go_upto_region 8 with fail
    go_region
    go_wp2_with fail
    refine bodyPost_end (v := .tuple #[]) ?_ rfl ⟨rfl, ?_, ?_⟩
    · simp [results, Tryd.results72, go_sem]
    · rw [HX.out]
      exact (HB6.out.setSf HV.out HW.out _).below (Below.refl _ _).drew
    · exact (HO6.out.set (show One p p from rfl) _).next (Below.refl _ _).drew
  · have HX : Hid (Mk.settleM A v who ⟨true, pr, q⟩ n pay get = { Mk.holdM A v who ⟨true, pr, q⟩ (-1) with
        sf := upd (Mk.holdM A v who ⟨true, pr, q⟩ (-1)).sf v (upd ((Mk.holdM A v who ⟨true, pr, q⟩ (-1)).sf v) who ((Mk.holdM A v who ⟨true, pr, q⟩ (-1)).sf v who - n)),
        cf := upd (Mk.holdM A v who ⟨true, pr, q⟩ (-1)).cf who ((Mk.holdM A v who ⟨true, pr, q⟩ (-1)).cf who + n * get) }) := (by
      unfold Mk.settleM Mk.dealM
      rw [← HHo.out]
      rfl : Mk.settleM A v who ⟨true, pr, q⟩ n pay get = { Mk.holdM A v who ⟨true, pr, q⟩ (-1) with
        sf := upd (Mk.holdM A v who ⟨true, pr, q⟩ (-1)).sf v (upd ((Mk.holdM A v who ⟨true, pr, q⟩ (-1)).sf v) who ((Mk.holdM A v who ⟨true, pr, q⟩ (-1)).sf v who - n)),
        cf := upd (Mk.holdM A v who ⟨true, pr, q⟩ (-1)).cf who ((Mk.holdM A v who ⟨true, pr, q⟩ (-1)).cf who + n * get) })
    generalize Mk.holdM A v who ⟨true, pr, q⟩ (-1) = B at *
    have f0 := HB5.out.slot hv hw
    have z0 := HB5.out.box.frozen (who * 6 + 2 + v * 2)
    go_upto_region 5 with fail
    go_region
    have HB6 : Hid (PM ((W5.setCell ⟨p, who * 6 + 2 + v * 2, none⟩ (.int .i64 (B.sf v who - n))).drew) p vb { B with sf := upd B.sf v (upd (B.sf v) who (B.sf v who - n)) }) := (HB5.out.setSf HV.out HW.out _).below (Below.refl _ _).drew
    have HO6 : Hid (Only (One p) w ((W5.setCell ⟨p, who * 6 + 2 + v * 2, none⟩ (.int .i64 (B.sf v who - n))).drew)) := (HO5.out.set (show One p p from rfl) _).next (Below.refl _ _).drew
    have t3' : ((W5.setCell ⟨p, who * 6 + 2 + v * 2, none⟩ (.int .i64 (B.sf v who - n))).drew).cell? ⟨w.heap.size + 1, 3, none⟩ = some (.int .i64 get) := cell_set_ne (w := W5) (.inl (by omega)) t3
    clear f0 z0 a2 t2 t3
    generalize (W5.setCell ⟨p, who * 6 + 2 + v * 2, none⟩ (.int .i64 (B.sf v who - n))).drew = W6 at *
    have f0 := HB6.out.ac hw (k := 0) (by omega)
    have z0 := HB6.out.box.frozen (who * 6)
    simp only [acF, Nat.add_zero] at f0
    go_upto_region 6 with fail
    go_region
    go_wp2_with fail
    refine bodyPost_end (v := .tuple #[]) ?_ rfl ⟨rfl, ?_, ?_⟩
    · simp [results, Tryd.results72, go_sem]
    · rw [HX.out]
      exact (HB6.out.setCf HW.out _).below (Below.refl _ _).drew
    · exact (HO6.out.set (show One p p from rfl) _).next (Below.refl _ _).drew

end Go.Proofs.YtmebcdpdpcpnmabDoor

namespace Go.Proofs.YtmebcdpdpcpnmabDoor
open Go.RowKit

/-- the program closes a batch as the document does -/
def CloseOk : Prop := ∀ (p : Nat) (vb : Nat → Value) (M : Mk.Mkt) (c : Mk.Cmd) (W : World), Mk.Sound M → Mk.One M → c.Ok → c.d = .close → PM W p vb M → Tab W →
  Calls Tryd.prog 44 #[.pointer (some ⟨p, 0, none⟩), reqV c] W fun e w' => PDoT p vb ((Mk.shutM M (Mk.nth c.n 0)).1, 0, (Mk.shutM M (Mk.nth c.n 0)).2) W e w'
theorem all_carry (hC : CloseOk) (p : Nat) (vb : Nat → Value) (M : Mk.Mkt) (c : Mk.Cmd) (hM : Mk.Sound M) (h1 : Mk.One M) (hok : c.Ok) (W : World) (hP : PM W p vb M) (hT : Tab W) :
    Calls Tryd.prog 44 #[.pointer (some ⟨p, 0, none⟩), reqV c] W fun e w' => PDoT p vb (Mk.allM M c) W e w' := by
  rcases close_or c.d with e | e
  · rw [all_close e]; exact hC p vb M c W hM h1 hok e hP hT
  · rw [all_book e]; exact book_carry p vb M c hM hok e W hP hT
theorem deal_onto (M : Mk.Mkt) (d : ByteArray) (v who : Nat) (o : Mk.Ord) (n pay get : Int) : Mk.dealM (Mk.onto M d) v who o n pay get = Mk.onto (Mk.dealM M v who o n pay get) d := by
  obtain ⟨sell, pr, q⟩ := o
  cases sell <;> rfl
theorem dealTo_onto (M : Mk.Mkt) (d : ByteArray) (v : Nat) (b : List Mk.Stand) (f : Nat → Int) (pay get : Int) : ∀ k, Mk.dealTo (Mk.onto M d) v b f pay get k = Mk.onto (Mk.dealTo M v b f pay get k) d
  | 0 => rfl
  | k + 1 => by
    show Mk.dealM (Mk.dealTo (Mk.onto M d) v b f pay get k) v _ _ _ pay get = Mk.onto (Mk.dealM (Mk.dealTo M v b f pay get k) v _ _ _ pay get) d
    rw [dealTo_onto M d v b f pay get k, deal_onto]
theorem shut_onto (M : Mk.Mkt) (d : ByteArray) (v : Nat) : Mk.shutM (Mk.onto M d) v = ((Mk.shutM M v).1, Mk.onto (Mk.shutM M v).2 d) := by
  unfold Mk.shutM
  show (_, { Mk.dealTo (Mk.onto M d) v (M.bk v) (Mk.sF M v) (Mk.sPay M v) (Mk.sGet M v) (M.bk v).length with bk := upd M.bk v [], cm := upd M.cm v 0 }) = _
  rw [dealTo_onto]
theorem all_onto (M : Mk.Mkt) (d : ByteArray) (c : Mk.Cmd) : Mk.allM (Mk.onto M d) c = ((Mk.allM M c).1, (Mk.allM M c).2.1, Mk.onto (Mk.allM M c).2.2 d) := by
  rcases close_or c.d with e | e
  · rw [all_close e, all_close e, shut_onto]
  · rw [all_book e, all_book e, book_onto]
/-- carryOut at any command, whatever the log says -/
theorem all_carry_onto (hC : CloseOk) {p : Nat} {vb : Nat → Value} {M : Mk.Mkt} {k : Nat} (h : AInv M k) {c : Mk.Cmd} (hok : c.Ok) (d : ByteArray) (W : World) (hP : PM W p vb (Mk.onto M d)) (hT : Tab W) :
    Calls Tryd.prog 44 #[.pointer (some ⟨p, 0, none⟩), reqV c] W fun e w' => PDoT p vb ((Mk.allM M c).1, (Mk.allM M c).2.1, Mk.onto (Mk.allM M c).2.2 d) W e w' := by
  rw [← all_onto]
  exact all_carry hC p vb (Mk.onto M d) c (sound_onto h.sound d) h.one hok W hP hT
theorem all_dos (hC : CloseOk) (p : Nat) (vb : Nat → Value) (M : Mk.Mkt) (k : Nat) (s : ByteArray) (w : World) (h : AInv M k) (hk : k ≤ 1200000) (hP : PM w p vb M) (hT : Tab w) :
    Calls Tryd.prog 23 #[.pointer (some ⟨p, 0, none⟩), .string s] w fun e w' => PDoT p vb (Mk.doM (Mk.allM M) M s) w e w' :=
  pdo_any2 p vb M s w (Mk.allM M) h.well.ls (by have := h.well.disk; omega) hP hT (fun c hc _ => ⟨(all_ls h.sound h.one (Mk.read_ok hc).1).2, fun d W hW hT' => all_carry_onto hC h (Mk.read_ok hc).1 d W hW hT'⟩)

end Go.Proofs.YtmebcdpdpcpnmabDoor
