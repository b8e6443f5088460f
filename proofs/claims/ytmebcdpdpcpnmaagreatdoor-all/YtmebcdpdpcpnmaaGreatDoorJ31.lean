import Derived.Test.YtmebcdpdpcpnmaaGreatDoorJ27
import Derived.Deep.RegionHeld3
import Derived.Deep.CutBlock
import Derived.Test.YtmebcdpdpcpnmaaGreatDoorJ30
import Derived.Test.YtmebcdpdpcpnmaaGreatDoorJ28
import Derived.Test.YtmebcdpdpcpnmaaGreatDoorJ14
namespace Go.Proofs.YtmebcdpdpcpnmaaGreatDoor
open Go.RowKit

set_option maxRecDepth 100000 in
set_option maxHeartbeats 8000000 in
theorem order_m (p g cap : Nat) (b : RB) (M : Mk.Mkt) (who v : Nat) (r pr q : Int) (d : Mk.Wd) (sell mc : Bool) (w : World) (hM : M.Fine) (hR : Ref w p b M) (hw : who < 4) (hv : v < 2) (bp : 1 ≤ pr ∧ pr ≤ 99) (bq : 1 ≤ q ∧ q ≤ 20) (hcm : 0 ≤ M.cm v ∧ M.cm v ≤ 12)
    (hmd0 : M.md v = true) (hd : (d.text.toList == [115, 101, 108, 108]) = sell) (g0 : w.cell? ⟨g, 0, none⟩ = some (.int .i64 (v : Int))) (g1 : w.cell? ⟨g, 1, none⟩ = some (.int .i64 pr)) (g2 : w.cell? ⟨g, 2, none⟩ = some (.int .i64 q)) :
    Calls Tryz.prog 81 #[.pointer (some ⟨p, 0, none⟩), cmdV who r d (.slice (some ⟨g, 0, none⟩) 3 cap) mc] w fun e w' => DoT p b (Mk.orderM M v who ⟨sell, pr, q⟩) w e w' := by
  obtain ⟨i0, hi0, hz0, hz1, hz2⟩ := info_parts Tryz.infoStand
  have HM : Hid M.Fine := hM
  have HMd : Hid (M.md v = true) := hmd0
  clear hmd0
  have HR0 : Hid (Ref w p b M) := hR
  have HB1 : Hid (Below w.heap.size w (w.alloc (.cells #[.int .i64 (who : Int), .int .i64 r, .string d.text, .slice (some ⟨g, 0, none⟩) 3 cap, .bool mc] 83))) := (Below.refl _ _).alloc (Nat.le_refl _) _
  have HC1 : Hid (∀ i u, (#[.int .i64 (who : Int), .int .i64 r, .string d.text, .slice (some ⟨g, 0, none⟩) 3 cap, .bool mc] : Array Value)[i]? = some u → (w.alloc (.cells #[.int .i64 (who : Int), .int .i64 r, .string d.text, .slice (some ⟨g, 0, none⟩) 3 cap, .bool mc] 83)).cell? ⟨w.heap.size, i, none⟩ = some u) := fun i u h => by simpa using h
  have hcl : w.heap.size < (w.alloc (.cells #[.int .i64 (who : Int), .int .i64 r, .string d.text, .slice (some ⟨g, 0, none⟩) 3 cap, .bool mc] 83)).heap.size := by simp
  have hgl0 := blk_lt g0
  have hgl : g < (w.alloc (.cells #[.int .i64 (who : Int), .int .i64 r, .string d.text, .slice (some ⟨g, 0, none⟩) 3 cap, .bool mc] 83)).heap.size := by simp; omega
  have k0 : (w.alloc (.cells #[.int .i64 (who : Int), .int .i64 r, .string d.text, .slice (some ⟨g, 0, none⟩) 3 cap, .bool mc] 83)).cell? ⟨g, 0, none⟩ = some (.int .i64 (v : Int)) := cell_al g0
  have k1 : (w.alloc (.cells #[.int .i64 (who : Int), .int .i64 r, .string d.text, .slice (some ⟨g, 0, none⟩) 3 cap, .bool mc] 83)).cell? ⟨g, 1, none⟩ = some (.int .i64 pr) := cell_al g1
  have k2 : (w.alloc (.cells #[.int .i64 (who : Int), .int .i64 r, .string d.text, .slice (some ⟨g, 0, none⟩) 3 cap, .bool mc] 83)).cell? ⟨g, 2, none⟩ = some (.int .i64 q) := cell_al g2
  have hv' : (v : Int) < 2 := by omega
  have hw' : (who : Int) < 4 := by omega
  have hlen := hM.len v hv
  have HV : Hid (v < 2) := hv
  clear hM hR g0 g1 g2
  go_enter Tryz.func81, Tryz.ntmps81
  go_upto_region 1 with fail
  generalize w.alloc (.cells #[.int .i64 (who : Int), .int .i64 r, .string d.text, .slice (some ⟨g, 0, none⟩) 3 cap, .bool mc] 83) = W1 at *
  have x2 := HC1.out 2 _ rfl
  have x3 := HC1.out 3 _ rfl
  go_upto_region 2 with fail
  go_region
  have hb2 : Below W1.heap.size W1 ((W1.alloc (.cells #[.bool sell, .int .i64 pr, .int .i64 q] 120)).drew) := ((Below.refl _ _).alloc (Nat.le_refl _) _).drew
  have HB2 : Hid (Below w.heap.size w ((W1.alloc (.cells #[.bool sell, .int .i64 pr, .int .i64 q] 120)).drew)) := HB1.out.trans (hb2.mono HB1.out.size)
  have HC2 : Hid (∀ i u, (#[.int .i64 (who : Int), .int .i64 r, .string d.text, .slice (some ⟨g, 0, none⟩) 3 cap, .bool mc] : Array Value)[i]? = some u → ((W1.alloc (.cells #[.bool sell, .int .i64 pr, .int .i64 q] 120)).drew).cell? ⟨w.heap.size, i, none⟩ = some u) := fun i u h => (hb2.cell (p := ⟨w.heap.size, i, none⟩) hcl).trans (HC1.out i u h)
  have HO2 : Hid (∀ i u, (#[.bool sell, .int .i64 pr, .int .i64 q] : Array Value)[i]? = some u → ((W1.alloc (.cells #[.bool sell, .int .i64 pr, .int .i64 q] 120)).drew).cell? ⟨W1.heap.size, i, none⟩ = some u) := fun i u h => by simpa using h
  have hol : W1.heap.size < ((W1.alloc (.cells #[.bool sell, .int .i64 pr, .int .i64 q] 120)).drew).heap.size := by simp
  have hcl2 : w.heap.size < ((W1.alloc (.cells #[.bool sell, .int .i64 pr, .int .i64 q] 120)).drew).heap.size := Nat.lt_of_lt_of_le hcl hb2.size
  have hwO : w.heap.size < W1.heap.size := hcl
  clear hb2 x2 x3 k0 k1 k2 hgl hgl0 hcl hd
  generalize (W1.alloc (.cells #[.bool sell, .int .i64 pr, .int .i64 q] 120)).drew = W2 at *
  generalize W1.heap.size = O at *
  have HR2 : Hid (Ref W2 p b M) := HR0.out.below HB2.out
  have f3 := HR2.out.box.cell (i := 3) (by omega)
  have m3 := HR2.out.modes.cell hv
  have o2 := HO2.out 2 _ rfl
  simp only [mktF] at f3
  have hmd := HMd.out
  · have m3' : W2.cell? ⟨b.bM, v, none⟩ = some (.bool true) := by rw [m3, hmd]
    by_cases hq1 : q = 1
    · have hq2 : (q == 1) = true := by rw [beq_iff_eq]; exact hq1
      have hq3 : (q != 1) = false := by rw [bne, hq2]; rfl
      have HQ : Hid (decide (q ≠ 1) = false) := (by rw [decide_eq_false_iff_not]; exact fun h => h hq1 : decide (q ≠ 1) = false)
      clear m3 hq1
      go_wp2_with fail
      go_loopw [8] (fun j wr => ∃ k : Nat, k ≤ (M.bk v).length ∧ j = .int .i64 k ∧ (∀ i, i < k → ((Mk.std (M.bk v) i).who == (who : Int)) = false) ∧ Below W2.heap.size W2 wr) (fun j _ => (M.bk v).length - (intOf j).toNat)
      case atStart => exact ⟨0, Nat.zero_le _, rfl, fun i hi => by omega, Below.refl _ _⟩
      case round =>
        obtain ⟨k, hk, rfl, hno, hb3⟩ := hrel
        have HNo : Hid (∀ i, i < k → ((Mk.std (M.bk v) i).who == (who : Int)) = false) := hno
        have HBk : Hid (Below W2.heap.size W2 wr) := hb3
        have HR3 : Hid (Ref wr p b M) := HR2.out.below hb3
        have HB3 : Hid (Below w.heap.size w wr) := HB2.out.trans (hb3.mono HB2.out.size)
        have HC3 : Hid (∀ i u, (#[.int .i64 (who : Int), .int .i64 r, .string d.text, .slice (some ⟨g, 0, none⟩) 3 cap, .bool mc] : Array Value)[i]? = some u → wr.cell? ⟨w.heap.size, i, none⟩ = some u) := fun i u h => (hb3.cell (p := ⟨w.heap.size, i, none⟩) hcl2).trans (HC2.out i u h)
        have HO3 : Hid (∀ i u, (#[.bool sell, .int .i64 pr, .int .i64 q] : Array Value)[i]? = some u → wr.cell? ⟨O, i, none⟩ = some u) := fun i u h => (hb3.cell (p := ⟨O, i, none⟩) hol).trans (HO2.out i u h)
        have hol3 : O < wr.heap.size := Nat.lt_of_lt_of_le hol hb3.size
        have hcl3 : w.heap.size < wr.heap.size := Nat.lt_of_lt_of_le hcl2 hb3.size
        have n3 := HR3.out.modes.cell hv
        rw [hmd] at n3
        obtain ⟨ba, bc, hbv⟩ := HR3.out.book hv
        have n4 := HR3.out.books.cell hv
        rw [hbv] at n4
        clear hb3 f3 m3' o2 hno
        have f3 := HR3.out.box.cell (i := 3) (by omega)
        have f4 := HR3.out.box.cell (i := 4) (by omega)
        simp only [mktF] at f3 f4
        by_cases hlt : k < (M.bk v).length
        · have hlt' : (k : Int) < ((M.bk v).length : Int) := by omega
          have ho := HR3.out.bk v hv
          rw [hbv] at ho
          obtain ⟨gg, rfl⟩ := own_some ho (by omega)
          obtain ⟨s0, s1, s2, s3, s4⟩ := stand_cells ho rfl hlt
          have x0 := HC3.out 0 _ rfl
          clear ho
          by_cases hh : ((Mk.std (M.bk v) k).who == (who : Int)) = true
          · have HE : Hid (Mk.orderM M v who ⟨sell, pr, q⟩ = (⟨#[]⟩, 8, M)) := if_pos (by
              rw [hmd, Bool.true_and, Bool.or_eq_true]
              right
              unfold Mk.whoIn
              rw [List.any_eq_true]
              exact ⟨(M.bk v)[k], List.getElem_mem hlt, by rw [← Mk.std_at hlt]; exact hh⟩)
            go_wp2_with fail
            go_quiet (fail)
            have HB4 : Hid (Below w.heap.size w (wr.drewN nq)) := below_drewN HB3.out nq
            generalize wr.drewN nq = W4 at *
            go_wp2_with fail
            rw [HE.out]
            refine bodyPost_ret (v := .tuple #[.string ⟨#[]⟩, .int .i64 8]) ?_ rfl (doT_same HR0.out HB4.out)
            simp [results, Tryz.results81, go_sem]
          · have hh' : ((Mk.std (M.bk v) k).who == (who : Int)) = false := by simpa using hh
            have HNo' : Hid (∀ i, i < k + 1 → ((Mk.std (M.bk v) i).who == (who : Int)) = false) := fun i hi => by
              by_cases e : i = k
              · subst e; exact hh'
              · exact HNo.out i (by omega)
            clear hh
            go_wp2_with fail
            go_quiet (fail)
            have HB4 : Hid (Below W2.heap.size W2 (wr.drewN nq)) := below_drewN HBk.out nq
            generalize wr.drewN nq = W4 at *
            go_wp2_with fail
            go_roundw
            case rel => exact ⟨k + 1, by omega, by go_num, HNo'.out, HB4.out⟩
            case measure => simp [intOf]; omega
        · obtain rfl : k = (M.bk v).length := by omega
          have HNb : Hid (¬ (M.md v && (decide (q ≠ 1) || Mk.whoIn (M.bk v) who)) = true) := (by
            rw [hmd, HQ.out, Bool.true_and, Bool.false_or]
            intro h
            unfold Mk.whoIn at h
            rw [List.any_eq_true] at h
            obtain ⟨x, hx, hxw⟩ := h
            obtain ⟨i, hi, rfl⟩ := List.mem_iff_getElem.1 hx
            have := HNo.out i hi
            rw [Mk.std_at hi, hxw] at this
            exact Bool.noConfusion this : ¬ (M.md v && (decide (q ≠ 1) || Mk.whoIn (M.bk v) who)) = true)
          have f5 := HR3.out.box.cell (i := 5) (by omega)
          have c5 := HR3.out.came.cell hv
          simp only [mktF] at f5
          by_cases h12 : 12 ≤ M.cm v
          · have HE : Hid (Mk.orderM M v who ⟨sell, pr, q⟩ = (⟨#[]⟩, 7, M)) := (if_neg HNb.out).trans (if_pos h12)
            go_wp2_with fail
            rw [HE.out]
            refine bodyPost_ret (v := .tuple #[.string ⟨#[]⟩, .int .i64 7]) ?_ rfl (doT_same HR0.out HB3.out)
            simp [results, Tryz.results81, go_sem]
          · have HE0 := (show Hid _ from (if_neg HNb.out : Mk.orderM M v who ⟨sell, pr, q⟩ = _).trans (if_neg h12))
            obtain ⟨lk, hlk0⟩ : ∃ x, x = Mk.lacks M v who ⟨sell, pr, q⟩ := ⟨_, rfl⟩
            have HLk : Hid (lk = Mk.lacks M v who ⟨sell, pr, q⟩) := hlk0
            clear hlk0
            have x0 := HC3.out 0 _ rfl
            have p0 := HO3.out 0 _ rfl
            have p1 := HO3.out 1 _ rfl
            have p2 := HO3.out 2 _ rfl
            have f0 := HR3.out.box.cell (i := 0) (by omega)
            have f1 := HR3.out.box.cell (i := 1) (by omega)
            simp only [mktF] at f0 f1
            have a0 := HR3.out.cash.cell (i := who * 2) (by omega)
            rw [purseF_0] at a0
            have g1 := HR3.out.slots.cell hv
            have a1 := (HR3.out.sl v hv).cell (i := who * 2) (by omega)
            rw [purseF_0] at a1
            have bcf := HM.out.cf who hw
            have bsf := HM.out.sf v who hv hw
            have pq1 : 0 ≤ pr * q := Int.mul_nonneg (by omega) (by omega)
            have pq2 : pr * q ≤ 99 * 20 := Int.mul_le_mul bp.2 bq.2 (by omega) (by omega)
            go_upto_region 12 with fail
            go_cut [123] from 83 to 123 (fun x wx => x = .bool lk ∧ Below wr.heap.size wr wx)
            case first =>
              cases sell
              · rcases Bool.eq_false_or_eq_true (decide (M.cf who < pr * q)) with hx | hx
                · have hx' : M.cf who < pr * q := of_decide_eq_true hx
                  have HE : Hid (lk = true) := (HLk.out.trans hx : lk = true)
                  clear hx
                  go_quiet (fail)
                  have HB4 : Hid (Below wr.heap.size wr (wr.drewN nq)) := below_drewN (Below.refl _ _) nq
                  generalize wr.drewN nq = W4 at *
                  go_wp2_with fail
                  go_meet
                  exact ⟨by rw [HE.out], HB4.out⟩
                · have hx' : ¬ M.cf who < pr * q := of_decide_eq_false hx
                  have HE : Hid (lk = false) := (HLk.out.trans hx : lk = false)
                  clear hx
                  go_quiet (fail)
                  have HB4 : Hid (Below wr.heap.size wr (wr.drewN nq)) := below_drewN (Below.refl _ _) nq
                  generalize wr.drewN nq = W4 at *
                  go_wp2_with fail
                  go_meet
                  exact ⟨by rw [HE.out], HB4.out⟩
              · rcases Bool.eq_false_or_eq_true (decide (M.sf v who < q)) with hx | hx
                · have hx' : M.sf v who < q := of_decide_eq_true hx
                  have HE : Hid (lk = true) := (HLk.out.trans hx : lk = true)
                  clear hx
                  go_quiet (fail)
                  have HB4 : Hid (Below wr.heap.size wr (wr.drewN nq)) := below_drewN (Below.refl _ _) nq
                  generalize wr.drewN nq = W4 at *
                  go_wp2_with fail
                  go_meet
                  exact ⟨by rw [HE.out], HB4.out⟩
                · have hx' : ¬ M.sf v who < q := of_decide_eq_false hx
                  have HE : Hid (lk = false) := (HLk.out.trans hx : lk = false)
                  clear hx
                  go_quiet (fail)
                  have HB4 : Hid (Below wr.heap.size wr (wr.drewN nq)) := below_drewN (Below.refl _ _) nq
                  generalize wr.drewN nq = W4 at *
                  go_wp2_with fail
                  go_meet
                  exact ⟨by rw [HE.out], HB4.out⟩
            case rest =>
              obtain ⟨rfl, hb4⟩ := hcut
              have HB4 : Hid (Below w.heap.size w wc) := HB3.out.trans (hb4.mono HB3.out.size)
              have HR4 : Hid (Ref wc p b M) := HR3.out.below hb4
              have HC4 : Hid (∀ i u, (#[.int .i64 (who : Int), .int .i64 r, .string d.text, .slice (some ⟨g, 0, none⟩) 3 cap, .bool mc] : Array Value)[i]? = some u → wc.cell? ⟨w.heap.size, i, none⟩ = some u) := fun i u h => (hb4.cell (p := ⟨w.heap.size, i, none⟩) hcl3).trans (HC3.out i u h)
              have HO4 : Hid (∀ i u, (#[.bool sell, .int .i64 pr, .int .i64 q] : Array Value)[i]? = some u → wc.cell? ⟨O, i, none⟩ = some u) := fun i u h => (hb4.cell (p := ⟨O, i, none⟩) hol3).trans (HO3.out i u h)
              have hol4 : O < wc.heap.size := Nat.lt_of_lt_of_le hol3 hb4.size
              have hcl4 : w.heap.size < wc.heap.size := Nat.lt_of_lt_of_le hcl3 hb4.size
              clear hb4 x0 p0 p1 p2 f0 f1 a0 g1 a1 f5 c5 f3 n3
              rcases Bool.eq_false_or_eq_true lk with hlk | hlk
              · have HE : Hid (Mk.orderM M v who ⟨sell, pr, q⟩ = (⟨#[]⟩, 5, M)) := HE0.out.trans (if_pos (HLk.out.symm.trans hlk))
                subst hlk
                go_wp2_with fail
                rw [HE.out]
                refine bodyPost_ret (v := .tuple #[.string ⟨#[]⟩, .int .i64 5]) ?_ rfl (doT_same HR0.out HB4.out)
                simp [results, Tryz.results81, go_sem]
              · have HE : Hid (Mk.orderM M v who ⟨sell, pr, q⟩ = (Mk.digI (M.cm v), 0, Mk.putM M v who ⟨sell, pr, q⟩)) := HE0.out.trans (if_neg (fun h => by rw [← HLk.out, hlk] at h; cases h))
                subst hlk
                have x0 := HC4.out 0 _ rfl
                have p0 := HO4.out 0 _ rfl
                have p1 := HO4.out 1 _ rfl
                have p2 := HO4.out 2 _ rfl
                go_wp2_with fail
                refine (holds_any p b M v who sell pr q false wc HM.out HR4.out hw hv bp bq).mono ?_
                rintro e w5 ⟨rfl, hR5, ho5⟩
                have hR5' : Ref w5 p b (Mk.holdM M v who ⟨sell, pr, q⟩ 1) := hR5
                have hbk : (Mk.holdM M v who ⟨sell, pr, q⟩ 1).bk = M.bk ∧ (Mk.holdM M v who ⟨sell, pr, q⟩ 1).cm = M.cm := by unfold Mk.holdM; split <;> exact ⟨rfl, rfl⟩
                have HBk := (show Hid _ from hbk)
                have hlt0 : ∀ k, b.has p k → k < w.heap.size := fun k h => HR0.out.lt h
                have y0 : w5.cell? ⟨w.heap.size, 0, none⟩ = some (.int .i64 (who : Int)) := (ho5.cell hcl4 (fun h => by have := hlt0 _ h; omega)).trans x0
                have q0 : w5.cell? ⟨O, 0, none⟩ = some (.bool sell) := (ho5.cell hol4 (fun h => by have := hlt0 _ h; omega)).trans p0
                have q1 : w5.cell? ⟨O, 1, none⟩ = some (.int .i64 pr) := (ho5.cell hol4 (fun h => by have := hlt0 _ h; omega)).trans p1
                have q2 : w5.cell? ⟨O, 2, none⟩ = some (.int .i64 q) := (ho5.cell hol4 (fun h => by have := hlt0 _ h; omega)).trans p2
                have hcl5 : w.heap.size < w5.heap.size := Nat.lt_of_lt_of_le hcl4 ho5.size
                have hol5 : O < w5.heap.size := Nat.lt_of_lt_of_le hol4 ho5.size
                have f5 := hR5'.box.cell (i := 5) (by omega)
                have c5 := hR5'.came.cell hv
                have z5 := hR5'.came.frozen v
                simp only [mktF] at f5
                rw [hbk.2] at c5
                have HR6 := (show Hid _ from hR5'.setCm v (M.cm v + 1))
                have HO6 : Hid (Only (b.has p) w (w5.setCell ⟨b.bCm, v, none⟩ (.int .i64 (M.cm v + 1)))) := ((Only.of_below HB4.out).trans ho5 (fun _ _ h => h)).set (show b.has p b.bCm from .inr (.inr (.inr (.inr (.inr (.inr (.inl rfl))))))) _
                have hnC : w.heap.size ≠ b.bCm := fun e => by have := hlt0 b.bCm (.inr (.inr (.inr (.inr (.inr (.inr (.inl rfl))))))); omega
                have hnO : O ≠ b.bCm := fun e => by have := hlt0 b.bCm (.inr (.inr (.inr (.inr (.inr (.inr (.inl rfl))))))); omega
                have y0' : (w5.setCell ⟨b.bCm, v, none⟩ (.int .i64 (M.cm v + 1))).cell? ⟨w.heap.size, 0, none⟩ = some (.int .i64 (who : Int)) := cell_set_ne (.inl hnC) y0
                have q0' : (w5.setCell ⟨b.bCm, v, none⟩ (.int .i64 (M.cm v + 1))).cell? ⟨O, 0, none⟩ = some (.bool sell) := cell_set_ne (.inl hnO) q0
                have q1' : (w5.setCell ⟨b.bCm, v, none⟩ (.int .i64 (M.cm v + 1))).cell? ⟨O, 1, none⟩ = some (.int .i64 pr) := cell_set_ne (.inl hnO) q1
                have q2' : (w5.setCell ⟨b.bCm, v, none⟩ (.int .i64 (M.cm v + 1))).cell? ⟨O, 2, none⟩ = some (.int .i64 q) := cell_set_ne (.inl hnO) q2
                have hcl6 : w.heap.size < (w5.setCell ⟨b.bCm, v, none⟩ (.int .i64 (M.cm v + 1))).heap.size := by simpa using hcl5
                have hol6 : O < (w5.setCell ⟨b.bCm, v, none⟩ (.int .i64 (M.cm v + 1))).heap.size := by simpa using hol5
                clear hR5 hR5' ho5 hbk y0 q0 q1 q2 hcl5 hol5 x0 p0 p1 p2
                go_upto_region 17 with fail
                clear f5 c5 z5
                generalize w5.setCell ⟨b.bCm, v, none⟩ (.int .i64 (M.cm v + 1)) = W6 at *
                have hR6 : Ref W6 p b { Mk.holdM M v who ⟨sell, pr, q⟩ 1 with cm := upd (Mk.holdM M v who ⟨sell, pr, q⟩ 1).cm v (M.cm v + 1) } := HR6.out
                have HR6' : Hid (Ref W6 p b { Mk.holdM M v who ⟨sell, pr, q⟩ 1 with cm := upd (Mk.holdM M v who ⟨sell, pr, q⟩ 1).cm v (M.cm v + 1) }) := hR6
                have hown := hR6.bk v hv
                have hown' : W6.ownsRow 0 122 5 (b.bv v) (M.bk v).length (standC (M.bk v)) := by
                  have h := hown
                  simp only [HBk.out.1] at h
                  exact h
                obtain ⟨ba2, bc2, hbv2⟩ := own_form hown'
                have f4 := hR6.box.cell (i := 4) (by omega)
                have n4 := hR6.books.cell hv
                have z4 := hR6.books.frozen v
                have hpl := hR6.box.lt
                have hBl := hR6.books.lt
                simp only [mktF] at f4
                rw [hbv2] at n4 hown'
                have HOw : Hid (W6.ownsRow 0 122 5 (.slice ba2 (M.bk v).length bc2) (M.bk v).length (standC (M.bk v))) := hown'
                have hfp : (Value.slice ba2 (M.bk v).length bc2).ownBlock ≠ some p := fun e => (own_kind' hown' e).ne (row_kind hR6.box) (by decide) rfl
                have hfB : (Value.slice ba2 (M.bk v).length bc2).ownBlock ≠ some b.bB := fun e => (own_kind' hown' e).ne (row_kind hR6.books) (by decide) rfl
                clear hR6 hown hown'
                have hfC : (Value.slice ba2 (M.bk v).length bc2).ownBlock ≠ some w.heap.size := fun e => by
                  have := hlt0 w.heap.size (.inr (.inr (.inr (.inr (.inr (.inr (.inr (.inr (.inr (.inr ⟨v, hv, by rw [hbv2]; exact e⟩))))))))))
                  omega
                have hfO : (Value.slice ba2 (M.bk v).length bc2).ownBlock ≠ some O := fun e => by
                  have := hlt0 O (.inr (.inr (.inr (.inr (.inr (.inr (.inr (.inr (.inr (.inr ⟨v, hv, by rw [hbv2]; exact e⟩))))))))))
                  omega
                have HFar : Hid (∀ {w1 w2 : World} {k i : Nat} {u : Value}, w1.grownBy w2 (Value.slice ba2 (M.bk v).length bc2).ownBlock → k < w1.heap.size → (Value.slice ba2 (M.bk v).length bc2).ownBlock ≠ some k → w1.cell? ⟨k, i, none⟩ = some u → w2.cell? ⟨k, i, none⟩ = some u) := fun hg hk hf hu => (hg.cell_far ⟨_, _, none⟩ hk (Ne.symm hf)).trans hu
                go_region_held3 (fun w' => w'.cell? ⟨p, 4, none⟩ = some (.slice (some ⟨b.bB, 0, none⟩) 2 2) ∧ w'.cell? ⟨b.bB, v, none⟩ = some (.slice ba2 (M.bk v).length bc2) ∧ w'.cell? ⟨w.heap.size, 0, none⟩ = some (.int .i64 (who : Int)) ∧ w'.cell? ⟨O, 0, none⟩ = some (.bool sell) ∧ w'.cell? ⟨O, 1, none⟩ = some (.int .i64 pr) ∧ w'.cell? ⟨O, 2, none⟩ = some (.int .i64 q))
                  (first
                    | go_keep
                    | (go_split_ands
                       refine ⟨?_, ?_, ?_, ?_, ?_, ?_⟩
                       · (refine HFar.out hgrow (by simp; omega) hfp ?_; assumption)
                       · (refine HFar.out hgrow (by simp; omega) hfB ?_; assumption)
                       · (refine HFar.out hgrow (by simp; omega) hfC ?_; assumption)
                       · (refine HFar.out hgrow (by simp; omega) hfO ?_; assumption)
                       · (refine HFar.out hgrow (by simp; omega) hfO ?_; assumption)
                       · (refine HFar.out hgrow (by simp; omega) hfO ?_; assumption)))
                  ((refine step_append_lies _ (by rfl) _ _ _ (by rfl) 0 122 i0 _ 5 40 Tryz.underlying118 hi0 hz0 hz1 hz2 rfl (by omega) _ (M.bk v).length (standC (M.bk v)) (by rfl) ((HOw.out.alloc _).drew) ⟨W6.heap.size, 0, none⟩ 1 1 [.int .i64 (M.cm v), .int .i64 (who : Int), .bool sell, .int .i64 pr, .int .i64 q] (by rfl) (by rfl) (World.news_of_block (cs := #[.int .i64 (M.cm v), .int .i64 (who : Int), .bool sell, .int .i64 pr, .int .i64 q]) (t := 122) (fr := (0, 0)) (heap_alloc_new W6 _)) (by simp [Value.oneCell']) (by omega) (by unfold maxLen; omega) (by omega) (by simp) (W6.heap.size + 1) (by simp) ?_; intro gg cap' w7 hown7 hgrow hat hlt7))
                all_goals
                  have d4 : w7.cell? ⟨p, 4, none⟩ = some (.slice (some ⟨b.bB, 0, none⟩) 2 2) := (hgrow.cell_far ⟨p, 4, none⟩ (by simp; omega) (Ne.symm hfp)).trans (cell_al f4)
                  have dB : w7.cell? ⟨b.bB, v, none⟩ = some (.slice ba2 (M.bk v).length bc2) := (hgrow.cell_far ⟨b.bB, v, none⟩ (by simp; omega) (Ne.symm hfB)).trans (cell_al n4)
                  have zB : w7.frozen? ⟨b.bB, v, none⟩ = false := (hgrow.frozen_far ⟨b.bB, v, none⟩ (by simp; omega) (Ne.symm hfB)).trans (froz_al hBl z4)
                  have hn8 : ∀ k, (Value.slice (some ⟨gg, 0, none⟩) ((M.bk v).length + 1) cap').ownBlock = some k → (b.bv v).ownBlock = some k ∨ W6.heap.size ≤ k := fun k hk => by
                    have e' : gg = k := by simpa [Value.ownBlock] using hk
                    subst e'
                    rcases hat with e | e
                    · exact .inl (by rw [hbv2]; exact e)
                    · exact .inr (by omega)
                  have hR8 := HR6'.out.setBk (w1 := w7) hv (v' := .slice (some ⟨gg, 0, none⟩) ((M.bk v).length + 1) cap') (r := M.bk v ++ [⟨M.cm v, (who : Int), ⟨sell, pr, q⟩⟩]) (fun k hk he => by
                      rw [hgrow.block k (by simp; have := HR6'.out.lt hk; omega) (fun e' => he (by rw [hbv2]; exact e'.symm))]
                      exact Below.heap_alloc _ _ _ (HR6'.out.lt hk)) (by rw [List.length_append, standC_snoc]; exact hown7) hn8
                  have HR8 := (show Hid _ from hR8)
                  have hs6 := HO6.out.size
                  have HN8 : Hid (∀ k, RB.has { b with bv := upd b.bv v (.slice (some ⟨gg, 0, none⟩) ((M.bk v).length + 1) cap') } p k → b.has p k ∨ w.heap.size ≤ k) := fun k hk => by
                    rcases rb_new hv hn8 k hk with h | h
                    · exact .inl h
                    · exact .inr (by omega)
                  have HO8 : Hid (Only (b.has p) w (w7.setCell ⟨b.bB, v, none⟩ (.slice (some ⟨gg, 0, none⟩) ((M.bk v).length + 1) cap'))) := by
                    refine Only.set ?_ (show b.has p b.bB from .inr (.inr (.inr (.inr (.inr (.inl rfl)))))) _
                    refine HO6.out.trans (S' := b.has p) ⟨hgrow.os, hgrow.tape, hgrow.output, ?_, fun k hk hn => ?_⟩ (fun _ _ h => h)
                    · have := hgrow.size
                      simp at this
                      omega
                    · rw [hgrow.block k (by simp; omega) (fun e' => hn (.inr (.inr (.inr (.inr (.inr (.inr (.inr (.inr (.inr (.inr ⟨v, hv, by rw [hbv2]; exact e'.symm⟩)))))))))))]
                      exact Below.heap_alloc _ _ _ hk
                  clear hR8 hn8 hown7 hgrow hat hlt7 f4 n4 z4 y0' q0' q1' q2'
                  go_upto_region 19 with fail
                  generalize w7.setCell ⟨b.bB, v, none⟩ (.slice (some ⟨gg, 0, none⟩) ((M.bk v).length + 1) cap') = W8 at *
                  go_wp2_with fail
                  refine (digI_any (M.cm v) W8 hcm.1 (by omega)).mono ?_
                  rintro e w9 ⟨rfl, hb9⟩
                  have HB9 : Hid (Below W8.heap.size W8 w9) := hb9
                  clear hb9
                  go_wp2_with fail
                  rw [HE.out]
                  refine bodyPost_ret (v := .tuple #[.string (Mk.digI (M.cm v)), .int .i64 0]) ?_ rfl ⟨rfl, _, ?_, HO8.out.next HB9.out, HN8.out⟩
                  · simp [results, Tryz.results81, go_sem]
                  · have h := HR8.out.below HB9.out
                    simp only [HBk.out.1, HBk.out.2] at h
                    exact h
    · have hq2 : (q == 1) = false := by rw [beq_eq_false_iff_ne]; exact hq1
      have hq3 : (q != 1) = true := by rw [bne, hq2]; rfl
      have HE : Hid (Mk.orderM M v who ⟨sell, pr, q⟩ = (⟨#[]⟩, 8, M)) := if_pos (by rw [hmd, Bool.true_and, Bool.or_eq_true]; left; exact decide_eq_true hq1)
      clear m3 hq1
      go_wp2_with fail
      rw [HE.out]
      refine bodyPost_ret (v := .tuple #[.string ⟨#[]⟩, .int .i64 8]) ?_ rfl (doT_same HR0.out HB2.out)
      simp [results, Tryz.results81, go_sem]

end Go.Proofs.YtmebcdpdpcpnmaaGreatDoor

namespace Go.Proofs.YtmebcdpdpcpnmaaGreatDoor
open Go.RowKit

theorem order_any (p g cap : Nat) (b : RB) (M : Mk.Mkt) (who v : Nat) (r pr q : Int) (d : Mk.Wd) (sell mc : Bool) (w : World) (hM : M.Fine) (hR : Ref w p b M) (hw : who < 4) (hv : v < 2) (bp : 1 ≤ pr ∧ pr ≤ 99) (bq : 1 ≤ q ∧ q ≤ 20) (hcm : 0 ≤ M.cm v ∧ M.cm v ≤ 12)
    (hd : (d.text.toList == [115, 101, 108, 108]) = sell) (g0 : w.cell? ⟨g, 0, none⟩ = some (.int .i64 (v : Int))) (g1 : w.cell? ⟨g, 1, none⟩ = some (.int .i64 pr)) (g2 : w.cell? ⟨g, 2, none⟩ = some (.int .i64 q)) :
    Calls Tryz.prog 81 #[.pointer (some ⟨p, 0, none⟩), cmdV who r d (.slice (some ⟨g, 0, none⟩) 3 cap) mc] w fun e w' => DoT p b (Mk.orderM M v who ⟨sell, pr, q⟩) w e w' := by
  cases hmd : M.md v
  · exact order_u p g cap b M who v r pr q d sell mc w hM hR hw hv bp bq hcm hmd hd g0 g1 g2
  · exact order_m p g cap b M who v r pr q d sell mc w hM hR hw hv bp bq hcm hmd hd g0 g1 g2

theorem wt_buy1 : ((Mk.Wd.text .buy).toList == [112, 97, 121]) = false := by simp [Mk.Wd.text]
theorem wt_buy2 : ((Mk.Wd.text .buy).toList == [100, 114, 97, 119]) = false := by simp [Mk.Wd.text]
theorem wt_buy3 : ((Mk.Wd.text .buy).toList == [98, 114, 105, 110, 103]) = false := by simp [Mk.Wd.text]
theorem wt_buy4 : ((Mk.Wd.text .buy).toList == [102, 101, 116, 99, 104]) = false := by simp [Mk.Wd.text]
theorem wt_buy5 : ((Mk.Wd.text .buy).toList == [98, 117, 121]) = true := by simp [Mk.Wd.text]
theorem wt_sell1 : ((Mk.Wd.text .sell).toList == [112, 97, 121]) = false := by simp [Mk.Wd.text]
theorem wt_sell2 : ((Mk.Wd.text .sell).toList == [100, 114, 97, 119]) = false := by simp [Mk.Wd.text]
theorem wt_sell3 : ((Mk.Wd.text .sell).toList == [98, 114, 105, 110, 103]) = false := by simp [Mk.Wd.text]
theorem wt_sell4 : ((Mk.Wd.text .sell).toList == [102, 101, 116, 99, 104]) = false := by simp [Mk.Wd.text]
theorem wt_sell5 : ((Mk.Wd.text .sell).toList == [98, 117, 121]) = false := by simp [Mk.Wd.text]
theorem wt_sell6 : ((Mk.Wd.text .sell).toList == [115, 101, 108, 108]) = true := by simp [Mk.Wd.text]
theorem wt_drop1 : ((Mk.Wd.text .drop).toList == [112, 97, 121]) = false := by simp [Mk.Wd.text]
theorem wt_drop2 : ((Mk.Wd.text .drop).toList == [100, 114, 97, 119]) = false := by simp [Mk.Wd.text]
theorem wt_drop3 : ((Mk.Wd.text .drop).toList == [98, 114, 105, 110, 103]) = false := by simp [Mk.Wd.text]
theorem wt_drop4 : ((Mk.Wd.text .drop).toList == [102, 101, 116, 99, 104]) = false := by simp [Mk.Wd.text]
theorem wt_drop5 : ((Mk.Wd.text .drop).toList == [98, 117, 121]) = false := by simp [Mk.Wd.text]
theorem wt_drop6 : ((Mk.Wd.text .drop).toList == [115, 101, 108, 108]) = false := by simp [Mk.Wd.text]
theorem wt_drop7 : ((Mk.Wd.text .drop).toList == [100, 114, 111, 112]) = true := by simp [Mk.Wd.text]
theorem doT_next {p : Nat} {b : RB} {x : ByteArray × Int × Mk.Mkt} {w w1 w2 : World} {e : Ending} (hb : Below w.heap.size w w1) (h : DoT p b x w1 e w2) : DoT p b x w e w2 := by
  obtain ⟨he, b', hR, ho, hn⟩ := h
  refine ⟨he, b', hR, (Only.of_below hb).trans ho (fun _ _ h => h), fun k hk => ?_⟩
  rcases hn k hk with h | h
  · exact .inl h
  · exact .inr (Nat.le_trans hb.size h)

set_option maxRecDepth 100000 in
set_option maxHeartbeats 2000000 in
theorem does_buy (p g cap : Nat) (b : RB) (M : Mk.Mkt) (who v : Nat) (r pr q : Int) (mc : Bool) (w : World) (hM : M.Fine) (hR : Ref w p b M) (hw : who < 4) (hv : v < 2) (bp : 1 ≤ pr ∧ pr ≤ 99) (bq : 1 ≤ q ∧ q ≤ 20) (hcm : 0 ≤ M.cm v ∧ M.cm v ≤ 12)
    (g0 : w.cell? ⟨g, 0, none⟩ = some (.int .i64 (v : Int))) (g1 : w.cell? ⟨g, 1, none⟩ = some (.int .i64 pr)) (g2 : w.cell? ⟨g, 2, none⟩ = some (.int .i64 q)) :
    Calls Tryz.prog 50 #[.pointer (some ⟨p, 0, none⟩), cmdV who r .buy (.slice (some ⟨g, 0, none⟩) 3 cap) mc] w fun e w' => DoT p b (Mk.orderM M v who ⟨false, pr, q⟩) w e w' := by
  have HM : Hid M.Fine := hM
  have HR : Hid (Ref w p b M) := hR
  have hgl := blk_lt g0
  have HG := (show Hid _ from And.intro g0 (And.intro g1 g2))
  have HB : Hid (∀ ob, Below w.heap.size w (w.alloc ob)) := fun ob => (Below.refl _ _).alloc (Nat.le_refl _) ob
  have t0 := wt_buy1
  have t1 := wt_buy2
  have t2 := wt_buy3
  have t3 := wt_buy4
  have t4 := wt_buy5
  clear hM hR g0 g1 g2
  go_enter Tryz.func50, Tryz.ntmps50
  go_wp2_with fail
  refine (order_any p g cap b M who v r pr q .buy false mc _ HM.out (HR.out.below (HB.out _)) hw hv bp bq hcm (by simp [Mk.Wd.text]) (((HB.out _).cell (p := ⟨g, 0, none⟩) hgl).trans HG.out.1) (((HB.out _).cell (p := ⟨g, 1, none⟩) hgl).trans HG.out.2.1) (((HB.out _).cell (p := ⟨g, 2, none⟩) hgl).trans HG.out.2.2)).mono ?_
  intro e w2 hD
  have hD' := doT_next (HB.out _) hD
  obtain rfl := hD'.1
  have HD : Hid (DoT p b (Mk.orderM M v who ⟨false, pr, q⟩) w (.returned (.tuple #[.string (Mk.orderM M v who ⟨false, pr, q⟩).1, .int .i64 (Mk.orderM M v who ⟨false, pr, q⟩).2.1])) w2) := hD'
  clear hD hD'
  go_wp2_with fail
  refine bodyPost_ret (v := .tuple #[.string (Mk.orderM M v who ⟨false, pr, q⟩).1, .int .i64 (Mk.orderM M v who ⟨false, pr, q⟩).2.1]) ?_ rfl HD.out
  simp [results, Tryz.results50, go_sem]

set_option maxRecDepth 100000 in
set_option maxHeartbeats 2000000 in
theorem does_sell (p g cap : Nat) (b : RB) (M : Mk.Mkt) (who v : Nat) (r pr q : Int) (mc : Bool) (w : World) (hM : M.Fine) (hR : Ref w p b M) (hw : who < 4) (hv : v < 2) (bp : 1 ≤ pr ∧ pr ≤ 99) (bq : 1 ≤ q ∧ q ≤ 20) (hcm : 0 ≤ M.cm v ∧ M.cm v ≤ 12)
    (g0 : w.cell? ⟨g, 0, none⟩ = some (.int .i64 (v : Int))) (g1 : w.cell? ⟨g, 1, none⟩ = some (.int .i64 pr)) (g2 : w.cell? ⟨g, 2, none⟩ = some (.int .i64 q)) :
    Calls Tryz.prog 50 #[.pointer (some ⟨p, 0, none⟩), cmdV who r .sell (.slice (some ⟨g, 0, none⟩) 3 cap) mc] w fun e w' => DoT p b (Mk.orderM M v who ⟨true, pr, q⟩) w e w' := by
  have HM : Hid M.Fine := hM
  have HR : Hid (Ref w p b M) := hR
  have hgl := blk_lt g0
  have HG := (show Hid _ from And.intro g0 (And.intro g1 g2))
  have HB : Hid (∀ ob, Below w.heap.size w (w.alloc ob)) := fun ob => (Below.refl _ _).alloc (Nat.le_refl _) ob
  have t0 := wt_sell1
  have t1 := wt_sell2
  have t2 := wt_sell3
  have t3 := wt_sell4
  have t4 := wt_sell5
  have t5 := wt_sell6
  clear hM hR g0 g1 g2
  go_enter Tryz.func50, Tryz.ntmps50
  go_wp2_with fail
  refine (order_any p g cap b M who v r pr q .sell true mc _ HM.out (HR.out.below (HB.out _)) hw hv bp bq hcm (by simp [Mk.Wd.text]) (((HB.out _).cell (p := ⟨g, 0, none⟩) hgl).trans HG.out.1) (((HB.out _).cell (p := ⟨g, 1, none⟩) hgl).trans HG.out.2.1) (((HB.out _).cell (p := ⟨g, 2, none⟩) hgl).trans HG.out.2.2)).mono ?_
  intro e w2 hD
  have hD' := doT_next (HB.out _) hD
  obtain rfl := hD'.1
  have HD : Hid (DoT p b (Mk.orderM M v who ⟨true, pr, q⟩) w (.returned (.tuple #[.string (Mk.orderM M v who ⟨true, pr, q⟩).1, .int .i64 (Mk.orderM M v who ⟨true, pr, q⟩).2.1])) w2) := hD'
  clear hD hD'
  go_wp2_with fail
  refine bodyPost_ret (v := .tuple #[.string (Mk.orderM M v who ⟨true, pr, q⟩).1, .int .i64 (Mk.orderM M v who ⟨true, pr, q⟩).2.1]) ?_ rfl HD.out
  simp [results, Tryz.results50, go_sem]

set_option maxRecDepth 100000 in
set_option maxHeartbeats 2000000 in
theorem does_drop (p g cap : Nat) (b : RB) (M : Mk.Mkt) (who v : Nat) (r n : Int) (mc : Bool) (w : World) (hM : Mk.Sound M) (hR : Ref w p b M) (hw : who < 4) (hv : v < 2)
    (g0 : w.cell? ⟨g, 0, none⟩ = some (.int .i64 (v : Int))) (g1 : w.cell? ⟨g, 1, none⟩ = some (.int .i64 n)) (hgn : ¬ b.has p g) :
    Calls Tryz.prog 50 #[.pointer (some ⟨p, 0, none⟩), cmdV who r .drop (.slice (some ⟨g, 0, none⟩) 2 cap) mc] w fun e w' => DoT p b (⟨#[]⟩, (Mk.dropM M v who n).1, (Mk.dropM M v who n).2) w e w' := by
  have HM : Hid (Mk.Sound M) := hM
  have HR : Hid (Ref w p b M) := hR
  have hgl := blk_lt g0
  have HG := (show Hid _ from And.intro g0 (And.intro g1 hgn))
  have HB : Hid (∀ ob, Below w.heap.size w (w.alloc ob)) := fun ob => (Below.refl _ _).alloc (Nat.le_refl _) ob
  have t0 := wt_drop1
  have t1 := wt_drop2
  have t2 := wt_drop3
  have t3 := wt_drop4
  have t4 := wt_drop5
  have t5 := wt_drop6
  have t6 := wt_drop7
  clear hM hR g0 g1 hgn
  go_enter Tryz.func50, Tryz.ntmps50
  go_wp2_with fail
  refine (rdrop_any p g cap b M who v r n .drop mc _ HM.out.fine (HR.out.below (HB.out _)) hw hv (hit_idx (HM.out.inc v hv)) (((HB.out _).cell (p := ⟨g, 0, none⟩) hgl).trans HG.out.1) (((HB.out _).cell (p := ⟨g, 1, none⟩) hgl).trans HG.out.2.1) HG.out.2.2).mono ?_
  rintro e w2 ⟨rfl, hD⟩
  have HD : Hid (DoT p b (⟨#[]⟩, (Mk.dropM M v who n).1, (Mk.dropM M v who n).2) w (.returned (.tuple #[.string ⟨#[]⟩, .int .i64 (Mk.dropM M v who n).1])) w2) := doT_next (HB.out _) ⟨rfl, hD⟩
  clear hD
  go_wp2_with fail
  refine bodyPost_ret (v := .tuple #[.string ⟨#[]⟩, .int .i64 (Mk.dropM M v who n).1]) ?_ rfl HD.out
  simp [results, Tryz.results50, go_sem]

end Go.Proofs.YtmebcdpdpcpnmaaGreatDoor
