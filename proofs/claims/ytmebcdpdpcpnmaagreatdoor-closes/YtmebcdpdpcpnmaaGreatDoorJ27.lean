import Derived.Test.YtmebcdpdpcpnmaaGreatDoorJ26
import Derived.Deep.RegionLaw
import Derived.Deep.AppendLies
import Derived.Deep.CutBlock
namespace Go.Proofs.YtmebcdpdpcpnmaaGreatDoor
open Go.RowKit

theorem itoa_small (x : Int) (hx : 0 ≤ x ∧ x < 100) (w : World) : Calls Tryz.prog 52 #[.int .i64 x] w fun e w' => e = .returned (.string (Mk.digI x)) ∧ w' = w := by
  obtain ⟨n, rfl⟩ := Int.eq_ofNat_of_zero_le hx.1
  refine (Tryz.strconv_Itoa_small n (by omega) w).mono ?_
  rintro e w' ⟨rfl, rfl⟩
  exact ⟨by rw [dig_dec]; rfl, rfl⟩
theorem lacks_eq (M : Mk.Mkt) (v who : Nat) (sell : Bool) (pr q : Int) : Mk.lacks M v who ⟨sell, pr, q⟩ = decide (potF M v who sell < needI sell pr q) := by cases sell <;> rfl

set_option maxRecDepth 100000 in
set_option maxHeartbeats 4000000 in
theorem pplace_any (p : Nat) (vb : Nat → Value) (M : Mk.Mkt) (who : Nat) (r : Int) (t : ByteArray) (v : Nat) (a pr q n : Int) (m sell : Bool) (w : World) (hM : M.Fine) (hP : PM w p vb M) (hw : who < 4) (hv : v < 2) (bp : 1 ≤ pr ∧ pr ≤ 99) (bq : 1 ≤ q ∧ q ≤ 20) (hcm : 0 ≤ M.cm v ∧ M.cm v ≤ 12) (hT : Tab w) :
    Calls Tryz.prog 104 #[.pointer (some ⟨p, 0, none⟩), rqA who r t v a pr q n m, .bool sell] w fun e w' => PDoT p vb (Mk.orderM M v who ⟨sell, pr, q⟩) w e w' := by
  obtain ⟨i0, hi0, hz0, hz1, hz2⟩ := info_parts Tryz.infoEntry
  have HM : Hid M.Fine := hM
  have HT : Hid (Tab w) := hT
  have HP0 : Hid (PM w p vb M) := hP
  have HB1 : Hid (Below w.heap.size w (w.alloc (rqO who r t v a pr q n m))) := (Below.refl _ _).alloc (Nat.le_refl _) _
  have HP1 : Hid (PM (w.alloc (rqO who r t v a pr q n m)) p vb M) := hP.below HB1.out
  have HRq : Hid (∀ i u, (#[.int .i64 (who : Int), .int .i64 r, .string t, .int .i64 (v : Int), .int .i64 a, .int .i64 pr, .int .i64 q, .int .i64 n, .int .i64 (mdI m)] : Array Value)[i]? = some u → (w.alloc (rqO who r t v a pr q n m)).cell? ⟨w.heap.size, i, none⟩ = some u) := fun i u h => by simpa using h
  have hwl : w.heap.size < (w.alloc (rqO who r t v a pr q n m)).heap.size := by simp
  have hv' : (v : Int) < 2 := by omega
  have hw' : (who : Int) < 4 := by omega
  have hlen := hM.len v hv
  have HPl : Hid (∀ k, PHas p vb k → k < w.heap.size) := fun k hk => hP.lt hk
  clear hM hP hT
  go_enter Tryz.func104, Tryz.ntmps104
  go_upto_region 1 with fail
  generalize w.alloc (rqO who r t v a pr q n m) = W1 at *
  have x3 := HRq.out 3 _ rfl
  go_quiet (fail)
  have hbq : Below W1.heap.size W1 (W1.drewN nq) := below_drewN (Below.refl _ _) nq
  have HB2 : Hid (Below w.heap.size w (W1.drewN nq)) := HB1.out.trans (hbq.mono HB1.out.size)
  have HP2 : Hid (PM (W1.drewN nq) p vb M) := HP1.out.below hbq
  have HRq2 : Hid (∀ i u, (#[.int .i64 (who : Int), .int .i64 r, .string t, .int .i64 (v : Int), .int .i64 a, .int .i64 pr, .int .i64 q, .int .i64 n, .int .i64 (mdI m)] : Array Value)[i]? = some u → (W1.drewN nq).cell? ⟨w.heap.size, i, none⟩ = some u) := fun i u h => (hbq.cell (p := ⟨w.heap.size, i, none⟩) hwl).trans (HRq.out i u h)
  have hwl2 : w.heap.size < (W1.drewN nq).heap.size := hwl
  clear x3 hwl hbq
  generalize W1.drewN nq = W2 at *
  have x0 := HRq2.out 0 _ rfl
  have x6 := HRq2.out 6 _ rfl
  have c0 := HP2.out.vo hv (k := 0) (by omega)
  have c1 := HP2.out.vo hv (k := 1) (by omega)
  simp only [voF, Nat.add_zero] at c0 c1
  go_upto_region 2 with fail
  obtain ⟨bad, hbad0⟩ : ∃ b, b = (M.md v && (decide (q ≠ 1) || Mk.whoIn (M.bk v) who)) := ⟨_, rfl⟩
  have HBad : Hid (bad = (M.md v && (decide (q ≠ 1) || Mk.whoIn (M.bk v) who))) := hbad0
  clear hbad0
  go_cut [34] from 19 to 34 (fun x wx => x = .bool bad ∧ Below W2.heap.size W2 wx)
  case first =>
    cases hmd : M.md v
    · have c0' : W2.cell? ⟨p, 25 + v * 3, none⟩ = some (.int .i64 0) := by rw [c0, hmd]; rfl
      clear c0 c1
      go_wp2_with fail
      go_meet
      refine ⟨?_, Below.refl _ _⟩
      rw [HBad.out, hmd]
      rfl
    · have c0' : W2.cell? ⟨p, 25 + v * 3, none⟩ = some (.int .i64 1) := by rw [c0, hmd]; rfl
      by_cases hq1 : q = 1
      · have hq2 : (q == 1) = true := by rw [beq_iff_eq]; exact hq1
        have hq3 : (q != 1) = false := by rw [bne, hq2]; rfl
        have HE : Hid (decide (q ≠ 1) = false) := (by rw [decide_eq_false_iff_not]; exact fun h => h hq1 : decide (q ≠ 1) = false)
        have HOn := (show Hid _ from hasOrderOf_any p (25 + v * 3) who (vb v) (M.bk v) W2 c1 hlen (HP2.out.bk v hv))
        clear c0 c1 hq1
        go_wp2_with fail
        refine Calls.mono HOn.out ?_
        rintro e w3 ⟨rfl, hb3⟩
        have HB3 : Hid (Below W2.heap.size W2 w3) := hb3
        clear hb3
        go_wp2_with fail
        go_meet
        refine ⟨?_, HB3.out⟩
        rw [HBad.out, hmd, HE.out, Bool.true_and, Bool.false_or]
      · have hq2 : (q == 1) = false := by rw [beq_eq_false_iff_ne]; exact hq1
        have hq3 : (q != 1) = true := by rw [bne, hq2]; rfl
        have HE : Hid (decide (q ≠ 1) = true) := (by rw [decide_eq_true_iff]; exact hq1 : decide (q ≠ 1) = true)
        clear c0 c1 hq1
        go_wp2_with fail
        go_meet
        refine ⟨?_, Below.refl _ _⟩
        rw [HBad.out, hmd, HE.out, Bool.true_and, Bool.true_or]
  case rest =>
    obtain ⟨rfl, hb3⟩ := hcut
    have HB3 : Hid (Below w.heap.size w wc) := HB2.out.trans (hb3.mono HB2.out.size)
    have HP3 : Hid (PM wc p vb M) := HP2.out.below hb3
    have HRq3 : Hid (∀ i u, (#[.int .i64 (who : Int), .int .i64 r, .string t, .int .i64 (v : Int), .int .i64 a, .int .i64 pr, .int .i64 q, .int .i64 n, .int .i64 (mdI m)] : Array Value)[i]? = some u → wc.cell? ⟨w.heap.size, i, none⟩ = some u) := fun i u h => (hb3.cell (p := ⟨w.heap.size, i, none⟩) hwl2).trans (HRq2.out i u h)
    have hwl3 : w.heap.size < wc.heap.size := Nat.lt_of_lt_of_le hwl2 hb3.size
    clear hb3 x0 x6 c0 c1
    rcases Bool.eq_false_or_eq_true bad with hbad | hbad
    · have HE : Hid (Mk.orderM M v who ⟨sell, pr, q⟩ = (⟨#[]⟩, 8, M)) := if_pos (HBad.out.symm.trans hbad)
      subst hbad
      go_wp2_with fail
      rw [HE.out]
      refine bodyPost_ret (v := .tuple #[.string ⟨#[]⟩, .int .i64 8]) ?_ rfl (pdoT_same HP0.out HB3.out)
      simp [results, Tryz.results104, go_sem]
    · have HNb : Hid (¬ (M.md v && (decide (q ≠ 1) || Mk.whoIn (M.bk v) who)) = true) := fun h => by rw [← HBad.out, hbad] at h; cases h
      subst hbad
      have c2 := HP3.out.vo hv (k := 2) (by omega)
      simp only [voF] at c2
      by_cases h12 : 12 ≤ M.cm v
      · have HE : Hid (Mk.orderM M v who ⟨sell, pr, q⟩ = (⟨#[]⟩, 7, M)) := (if_neg HNb.out).trans (if_pos h12)
        go_wp2_with fail
        rw [HE.out]
        refine bodyPost_ret (v := .tuple #[.string ⟨#[]⟩, .int .i64 7]) ?_ rfl (pdoT_same HP0.out HB3.out)
        simp [results, Tryz.results104, go_sem]
      · have HE0 := (show Hid _ from (if_neg HNb.out : Mk.orderM M v who ⟨sell, pr, q⟩ = _).trans (if_neg h12))
        have x0 := HRq3.out 0 _ rfl
        have x3 := HRq3.out 3 _ rfl
        have x5 := HRq3.out 5 _ rfl
        have x6 := HRq3.out 6 _ rfl
        have hpl := HP3.out.box.lt
        go_upto_region 7 with fail
        go_region
        have hb5 : Below wc.heap.size wc (((wc.alloc (.cells #[.bool sell, .int .i64 pr, .int .i64 q] 123)).alloc (.cells #[.int .i64 (M.cm v), .int .i64 (who : Int), .bool sell, .int .i64 pr, .int .i64 q] 152)).drew) := ((((Below.refl _ _).alloc (Nat.le_refl _) _).alloc (by simp) _)).drew
        have HB5 : Hid (Below w.heap.size w (((wc.alloc (.cells #[.bool sell, .int .i64 pr, .int .i64 q] 123)).alloc (.cells #[.int .i64 (M.cm v), .int .i64 (who : Int), .bool sell, .int .i64 pr, .int .i64 q] 152)).drew)) := HB3.out.trans (hb5.mono HB3.out.size)
        have HP5 : Hid (PM (((wc.alloc (.cells #[.bool sell, .int .i64 pr, .int .i64 q] 123)).alloc (.cells #[.int .i64 (M.cm v), .int .i64 (who : Int), .bool sell, .int .i64 pr, .int .i64 q] 152)).drew) p vb M) := HP3.out.below hb5
        have y3 : (((wc.alloc (.cells #[.bool sell, .int .i64 pr, .int .i64 q] 123)).alloc (.cells #[.int .i64 (M.cm v), .int .i64 (who : Int), .bool sell, .int .i64 pr, .int .i64 q] 152)).drew).cell? ⟨w.heap.size, 3, none⟩ = some (.int .i64 (v : Int)) := (hb5.cell (p := ⟨w.heap.size, 3, none⟩) hwl3).trans x3
        have HEn : Hid (∀ i u, (#[.int .i64 (M.cm v), .int .i64 (who : Int), .bool sell, .int .i64 pr, .int .i64 q] : Array Value)[i]? = some u → (((wc.alloc (.cells #[.bool sell, .int .i64 pr, .int .i64 q] 123)).alloc (.cells #[.int .i64 (M.cm v), .int .i64 (who : Int), .bool sell, .int .i64 pr, .int .i64 q] 152)).drew).cell? ⟨wc.heap.size + 1, i, none⟩ = some u) := fun i u h => by
          have h0 : (wc.alloc (.cells #[.bool sell, .int .i64 pr, .int .i64 q] 123)).heap.size = wc.heap.size + 1 := by simp
          show ((wc.alloc (.cells #[.bool sell, .int .i64 pr, .int .i64 q] 123)).alloc (.cells #[.int .i64 (M.cm v), .int .i64 (who : Int), .bool sell, .int .i64 pr, .int .i64 q] 152)).cell? ⟨wc.heap.size + 1, i, none⟩ = some u
          rw [← h0, World.cell?_alloc_new]
          exact h
        have HEl : Hid (wc.heap.size + 1 < (((wc.alloc (.cells #[.bool sell, .int .i64 pr, .int .i64 q] 123)).alloc (.cells #[.int .i64 (M.cm v), .int .i64 (who : Int), .bool sell, .int .i64 pr, .int .i64 q] 152)).drew).heap.size) := (by simp : wc.heap.size + 1 < (((wc.alloc (.cells #[.bool sell, .int .i64 pr, .int .i64 q] 123)).alloc (.cells #[.int .i64 (M.cm v), .int .i64 (who : Int), .bool sell, .int .i64 pr, .int .i64 q] 152)).drew).heap.size)
        have hE : w.heap.size < wc.heap.size + 1 := by have := HB3.out.size; omega
        clear hb5 x0 x3 x5 x6 c2 hpl
        generalize ((wc.alloc (.cells #[.bool sell, .int .i64 pr, .int .i64 q] 123)).alloc (.cells #[.int .i64 (M.cm v), .int .i64 (who : Int), .bool sell, .int .i64 pr, .int .i64 q] 152)).drew = W5 at *
        generalize wc.heap.size + 1 = E at *
        have a0 := HEn.out 0 _ rfl
        have a1 := HEn.out 1 _ rfl
        have a2 := HEn.out 2 _ rfl
        have a3 := HEn.out 3 _ rfl
        have a4 := HEn.out 4 _ rfl
        go_wp2_with fail
        refine (potOf_any p v who (M.cm v) sell pr q W5 hw hv).mono ?_
        rintro e w6 ⟨rfl, hb6⟩
        have HB6 : Hid (Below w.heap.size w w6) := HB5.out.trans (hb6.mono HB5.out.size)
        have HP6 : Hid (PM w6 p vb M) := HP5.out.below hb6
        have HEn6 : Hid (∀ i u, (#[.int .i64 (M.cm v), .int .i64 (who : Int), .bool sell, .int .i64 pr, .int .i64 q] : Array Value)[i]? = some u → w6.cell? ⟨E, i, none⟩ = some u) := fun i u h => (hb6.cell (p := ⟨E, i, none⟩) HEl.out).trans (HEn.out i u h)
        have HEl6 : Hid (E < w6.heap.size) := Nat.lt_of_lt_of_le HEl.out hb6.size
        clear hb6 a0 a1 a2 a3 a4 y3
        have a0 := HEn6.out 0 _ rfl
        have a1 := HEn6.out 1 _ rfl
        have a2 := HEn6.out 2 _ rfl
        have a3 := HEn6.out 3 _ rfl
        have a4 := HEn6.out 4 _ rfl
        go_wp2_with fail
        refine (needs_any (M.cm v) who sell pr q w6 bp bq).mono ?_
        rintro e w7 ⟨rfl, hb7⟩
        have HB7 : Hid (Below w.heap.size w w7) := HB6.out.trans (hb7.mono HB6.out.size)
        have HP7 : Hid (PM w7 p vb M) := HP6.out.below hb7
        have HEn7 : Hid (∀ i u, (#[.int .i64 (M.cm v), .int .i64 (who : Int), .bool sell, .int .i64 pr, .int .i64 q] : Array Value)[i]? = some u → w7.cell? ⟨E, i, none⟩ = some u) := fun i u h => (hb7.cell (p := ⟨E, i, none⟩) HEl6.out).trans (HEn6.out i u h)
        have HEl7 : Hid (E < w7.heap.size) := Nat.lt_of_lt_of_le HEl6.out hb7.size
        clear hb7 a0 a1 a2 a3 a4
        obtain ⟨f0, f1⟩ := HP7.out.potF hv hw sell
        obtain ⟨bf, bh⟩ := pot_bd HM.out hv hw sell
        have bn := needI_bd (sell := sell) bp bq
        by_cases hlk : potF M v who sell < needI sell pr q
        · have HE : Hid (Mk.orderM M v who ⟨sell, pr, q⟩ = (⟨#[]⟩, 5, M)) := HE0.out.trans (if_pos (by rw [lacks_eq]; exact decide_eq_true hlk))
          have HNo := (show Hid _ from hold_no p (potAt v who sell) (potF M v who sell) (needI sell pr q) w7 f0 hlk)
          clear f0 f1 hlk
          go_wp2_with fail
          refine Calls.mono HNo.out ?_
          rintro e w8 ⟨rfl, hw8⟩
          obtain rfl := hw8.symm
          go_wp2_with fail
          rw [HE.out]
          refine bodyPost_ret (v := .tuple #[.string ⟨#[]⟩, .int .i64 5]) ?_ rfl (pdoT_same HP0.out HB7.out)
          simp [results, Tryz.results104, go_sem]
        · have HE : Hid (Mk.orderM M v who ⟨sell, pr, q⟩ = (Mk.digI (M.cm v), 0, Mk.putM M v who ⟨sell, pr, q⟩)) := HE0.out.trans (if_neg (by rw [lacks_eq]; intro h; exact hlk (of_decide_eq_true h)))
          have HYes := (show Hid _ from hold_yes p (potAt v who sell) (potF M v who sell) (potH M v who sell) (needI sell pr q) w7 f0 f1 (HP7.out.box.frozen _) (HP7.out.box.frozen _) bf bh ⟨bn.1, by omega⟩ (by omega))
          have HP8 := (show Hid _ from HP7.out.hold hv hw sell pr q)
          have HO8 : Hid (Only (PHas p vb) w ((w7.setCell ⟨p, potAt v who sell, none⟩ (.int .i64 (potF M v who sell - needI sell pr q))).setCell ⟨p, potAt v who sell + 1, none⟩ (.int .i64 (potH M v who sell + needI sell pr q)))) := ((Only.of_below HB7.out).set (show PHas p vb p from .inl rfl) _).set (show PHas p vb p from .inl rfl) _
          clear f0 f1 hlk
          go_wp2_with fail
          refine Calls.mono HYes.out ?_
          rintro e w8 ⟨rfl, hw8⟩
          rw [← hw8] at HP8 HO8
          have hEp : E ≠ p := fun e => by have := HPl.out p (.inl rfl); omega
          have HEn8 : Hid (∀ i u, (#[.int .i64 (M.cm v), .int .i64 (who : Int), .bool sell, .int .i64 pr, .int .i64 q] : Array Value)[i]? = some u → w8.cell? ⟨E, i, none⟩ = some u) := fun i u h => by
            rw [hw8]
            exact cell_set_ne (.inl hEp) (cell_set_ne (.inl hEp) (HEn7.out i u h))
          have HEl8 : Hid (E < w8.heap.size) := (by rw [hw8]; simpa using HEl7.out : E < w8.heap.size)
          clear hw8 HYes
          have HP8' : Hid (PM w8 p vb (Mk.holdM M v who ⟨sell, pr, q⟩ 1)) := HP8.out
          have hbk : (Mk.holdM M v who ⟨sell, pr, q⟩ 1).bk = M.bk ∧ (Mk.holdM M v who ⟨sell, pr, q⟩ 1).cm = M.cm := by unfold Mk.holdM; split <;> exact ⟨rfl, rfl⟩
          have HBk := (show Hid _ from hbk)
          have hown := HP8'.out.bk v hv
          rw [hbk.1] at hown
          have d1 := HP8'.out.vo hv (k := 1) (by omega)
          simp only [voF] at d1
          obtain ⟨ba, bc, hbv⟩ := own_form hown
          rw [hbv] at d1 hown
          have z1 := HP8'.out.box.frozen (25 + v * 3 + 1)
          have a0 := HEn8.out 0 _ rfl
          have a1 := HEn8.out 1 _ rfl
          have a2 := HEn8.out 2 _ rfl
          have a3 := HEn8.out 3 _ rfl
          have a4 := HEn8.out 4 _ rfl
          clear hbk
          have kp : Kind w8 p 72 := row_kind HP8'.out.box
          have hfp : (Value.slice ba (M.bk v).length bc).ownBlock ≠ some p := fun e => (own_kind' hown e).ne kp (by decide) rfl
          have hfE : (Value.slice ba (M.bk v).length bc).ownBlock ≠ some E := fun e => by
            have h1 : PHas p vb E := .inr ⟨v, hv, by rw [hbv]; exact e⟩
            have := HPl.out E h1
            omega
          have hpl := HP8'.out.box.lt
          have hEl := HEl8.out
          have HOw : Hid (w8.ownsRow 0 152 5 (.slice ba (M.bk v).length bc) (M.bk v).length (standC (M.bk v))) := hown
          have hfz : ∀ ob, (w8.alloc ob).frozen? ⟨p, 25 + v * 3 + 1, none⟩ = false := fun ob => froz_al hpl z1
          clear kp hown
          go_upto_region 12 with fail
          have dA : ∀ ob, ((w8.alloc ob).drew).cell? ⟨p, 25 + v * 3 + 1, none⟩ = some (.slice ba (M.bk v).length bc) := fun ob => cell_al d1
          have zA : ∀ ob, ((w8.alloc ob).drew).frozen? ⟨p, 25 + v * 3 + 1, none⟩ = false := fun ob => froz_al hpl z1
          have HdA := (show Hid _ from dA)
          have HzA := (show Hid _ from zA)
          clear dA zA
          go_region_law ((refine step_append_lies _ (by rfl) _ _ _ (by rfl) 0 152 i0 _ 5 40 Tryz.underlying64 hi0 hz0 hz1 hz2 rfl (by omega) _ (M.bk v).length (standC (M.bk v)) (by rfl) ((HOw.out.alloc _).drew) ⟨w8.heap.size, 0, none⟩ 1 1 [.int .i64 (M.cm v), .int .i64 (who : Int), .bool sell, .int .i64 pr, .int .i64 q] (by rfl) (by rfl) (World.news_of_block (cs := #[.int .i64 (M.cm v), .int .i64 (who : Int), .bool sell, .int .i64 pr, .int .i64 q]) (t := 152) (fr := (0, 0)) (heap_alloc_new w8 _)) (by simp [Value.oneCell']) (by omega) (by unfold maxLen; omega) (by omega) (by simp) (w8.heap.size + 1) (by simp) ?_; intro gg cap' w1 hown1 hgrow hat hlt1; have d1' : w1.cell? ⟨p, 25 + v * 3 + 1, none⟩ = some (.slice ba (M.bk v).length bc) := (hgrow.cell_far _ (by simp; omega) (Ne.symm hfp)).trans (HdA.out _); have z1' : w1.frozen? ⟨p, 25 + v * 3 + 1, none⟩ = false := (hgrow.frozen_far _ (by simp; omega) (Ne.symm hfp)).trans (HzA.out _)))
          all_goals
            have hP9 : PM (w1.setCell ⟨p, 25 + v * 3 + 1, none⟩ (.slice (some ⟨gg, 0, none⟩) ((M.bk v).length + 1) cap')) p (upd vb v (.slice (some ⟨gg, 0, none⟩) ((M.bk v).length + 1) cap')) { Mk.holdM M v who ⟨sell, pr, q⟩ 1 with bk := upd (Mk.holdM M v who ⟨sell, pr, q⟩ 1).bk v (M.bk v ++ [⟨M.cm v, (who : Int), ⟨sell, pr, q⟩⟩]) } := by
              refine HP8'.out.setBk (w1 := w1) hv (fun k hk => ?_) ?_ ?_ (fun k hk => ?_)
              · by_cases e : (vb v).ownBlock = some k
                · exact .inr (.inl e)
                · refine .inr (.inr ?_)
                  rw [hgrow.block k (by simp; have := HP8'.out.lt hk; omega) (fun e' => e (by rw [hbv]; exact e'.symm))]
                  exact Below.heap_alloc _ _ _ (HP8'.out.lt hk)
              · rw [hgrow.block p (by simp; omega) (fun e' => hfp e'.symm)]
                exact Below.heap_alloc _ _ _ hpl
              · rw [List.length_append, standC_snoc]
                exact hown1
              · have e' : gg = k := by simpa [Value.ownBlock] using hk
                subst e'
                rcases hat with e | e
                · exact .inl (by rw [hbv]; exact e)
                · exact .inr (by omega)
            have HO9 : Hid (Only (PHas p vb) w (w1.setCell ⟨p, 25 + v * 3 + 1, none⟩ (.slice (some ⟨gg, 0, none⟩) ((M.bk v).length + 1) cap'))) := by
              refine Only.set ?_ (show PHas p vb p from .inl rfl) _
              refine HO8.out.trans (S' := PHas p vb) ⟨hgrow.os, hgrow.tape, hgrow.output, ?_, fun k hk hn => ?_⟩ (fun _ _ h => h)
              · have := hgrow.size
                simp at this
                omega
              · rw [hgrow.block k (by simp; omega) (fun e' => hn (.inr ⟨v, hv, by rw [hbv]; exact e'.symm⟩))]
                exact Below.heap_alloc _ _ _ hk
            have g0 : (w1.setCell ⟨p, 25 + v * 3 + 1, none⟩ (.slice (some ⟨gg, 0, none⟩) ((M.bk v).length + 1) cap')).cell? ⟨E, 0, none⟩ = some (.int .i64 (M.cm v)) := by
              refine cell_set_ne (.inl hEp) ?_
              rw [hgrow.cell_far ⟨E, 0, none⟩ (by simp; omega) (Ne.symm hfE)]
              exact cell_al a0
            have HNew : Hid (∀ k, PHas p (upd vb v (.slice (some ⟨gg, 0, none⟩) ((M.bk v).length + 1) cap')) k → PHas p vb k ∨ w.heap.size ≤ k) := by
              have h8 := HO8.out.size
              rintro k (rfl | ⟨u, hu, hk⟩)
              · exact .inl (.inl rfl)
              · by_cases e : u = v
                · subst e
                  rw [upd_self] at hk
                  have e' : gg = k := by simpa [Value.ownBlock] using hk
                  subst e'
                  rcases hat with e | e
                  · exact .inl (.inr ⟨u, hu, by rw [hbv]; exact e⟩)
                  · exact .inr (by omega)
                · rw [upd_ne _ _ e] at hk
                  exact .inl (.inr ⟨u, hu, hk⟩)
            have HP9 := (show Hid _ from hP9)
            have d2 := hP9.vo hv (k := 2) (by omega)
            have z2 := hP9.box.frozen (25 + v * 3 + 2)
            have HP10 := (show Hid _ from hP9.setCm hv (M.cm v + 1))
            simp only [voF] at d2
            rw [HBk.out.2] at d2
            clear hP9 hown1 hgrow hat hlt1 d1' z1' d1 z1 a0 a1 a2 a3 a4 hfz
            generalize (w1.setCell ⟨p, 25 + v * 3 + 1, none⟩ (.slice (some ⟨gg, 0, none⟩) ((M.bk v).length + 1) cap')) = W9 at *
            have HO10 : Hid (Only (PHas p vb) w (W9.setCell ⟨p, 25 + v * 3 + 2, none⟩ (.int .i64 (M.cm v + 1)))) := HO9.out.set (show PHas p vb p from .inl rfl) _
            have k0 : (W9.setCell ⟨p, 25 + v * 3 + 2, none⟩ (.int .i64 (M.cm v + 1))).cell? ⟨E, 0, none⟩ = some (.int .i64 (M.cm v)) := cell_set_ne (.inl hEp) g0
            go_wp2_with (go_at_call 52; (refine (itoa_small (M.cm v) ⟨hcm.1, by omega⟩ _).mono ?_; rintro e wz ⟨rfl, hwz⟩; obtain rfl := hwz.symm))
            rw [HE.out]
            refine bodyPost_ret (v := .tuple #[.string (Mk.digI (M.cm v)), .int .i64 0]) ?_ rfl ⟨rfl, _, ?_, HO10.out, HNew.out⟩
            · simp [results, Tryz.results104, go_sem]
            · have h := HP10.out
              rw [HBk.out.1, HBk.out.2] at h
              exact h

end Go.Proofs.YtmebcdpdpcpnmaaGreatDoor

namespace Go.Proofs.YtmebcdpdpcpnmaaGreatDoor
open Go.RowKit

theorem holds_any (p : Nat) (b : RB) (M : Mk.Mkt) (v who : Nat) (sell : Bool) (pr q : Int) (lt : Bool) (w : World) (hM : M.Fine) (hR : Ref w p b M) (hw : who < 4) (hv : v < 2) (hp : 1 ≤ pr ∧ pr ≤ 99) (hq : 1 ≤ q ∧ q ≤ 20) :
    Calls Tryz.prog 109 #[.pointer (some ⟨p, 0, none⟩), .int .i64 v, .int .i64 who, .agg #[.bool sell, .int .i64 pr, .int .i64 q], .bool lt] w fun e w' =>
      e = .returned (.tuple #[]) ∧ Ref w' p b (Mk.holdM M v who ⟨sell, pr, q⟩ (if lt then -1 else 1)) ∧ Only (b.has p) w w' := by
  cases sell
  · have h1 := hM.cf who hw
    have h2 := hM.ch who hw
    exact holds_buy p b M v who pr q lt w ⟨by omega, by omega⟩ ⟨by omega, by omega⟩ hR hw hq hp
  · have h1 := hM.sf v who hv hw
    have h2 := hM.sh v who hv hw
    exact holds_sell p b M v who pr q lt w ⟨by omega, by omega⟩ ⟨by omega, by omega⟩ hR hw hv hq

/-- another row of orders, of the document's -/
theorem Ref.setBk {w w1 : World} {p : Nat} {b : RB} {M : Mk.Mkt} (h : Ref w p b M) {v : Nat} (hv : v < 2) {v' : Value} {r : List Mk.Stand} (hs : ∀ k, b.has p k → (b.bv v).ownBlock ≠ some k → w1.heap[k]? = w.heap[k]?)
    (ho : w1.ownsRow 0 122 5 v' r.length (standC r)) (hn : ∀ k, v'.ownBlock = some k → (b.bv v).ownBlock = some k ∨ w.heap.size ≤ k) :
    Ref (w1.setCell ⟨b.bB, v, none⟩ v') p { b with bv := upd b.bv v v' } { M with bk := upd M.bk v r } := by
  have far : ∀ {k t : Nat}, Kind w k t → t ≠ 122 → (b.bv v).ownBlock ≠ some k := fun hk ht e => (own_kind' (h.bk v hv) e).ne hk (Ne.symm ht) rfl
  have e0 := hs p (.inl rfl) (far (row_kind h.box) (by decide))
  have e1 := hs b.bC (.inr (.inl rfl)) (far (row_kind h.cash) (by decide))
  have e2 := hs b.bS (.inr (.inr (.inl rfl))) (far (row_kind h.slots) (by decide))
  have e3 : ∀ u, u < 2 → w1.heap[b.sb u]? = w.heap[b.sb u]? := fun u hu => hs (b.sb u) (.inr (.inr (.inr (.inl ⟨u, hu, rfl⟩)))) (far (row_kind (h.sl u hu)) (by decide))
  have e4 := hs b.bM (.inr (.inr (.inr (.inr (.inl rfl))))) (far (row_kind h.modes) (by decide))
  have e5 := hs b.bB (.inr (.inr (.inr (.inr (.inr (.inl rfl)))))) (far (row_kind h.books) (by decide))
  have e6 := hs b.bCm (.inr (.inr (.inr (.inr (.inr (.inr (.inl rfl))))))) (far (row_kind h.came) (by decide))
  have e7 := hs b.bL (.inr (.inr (.inr (.inr (.inr (.inr (.inr (.inl rfl)))))))) (far (row_kind h.lasts) (by decide))
  have e8 := hs b.bT (.inr (.inr (.inr (.inr (.inr (.inr (.inr (.inr (.inl rfl))))))))) (far (row_kind h.texts) (by decide))
  have e9 := hs b.bE (.inr (.inr (.inr (.inr (.inr (.inr (.inr (.inr (.inr (.inl rfl)))))))))) (far (row_kind h.errs) (by decide))
  have kB : Kind w b.bB 118 := row_kind h.books
  have kB1 : Kind w1 b.bB 118 := row_kind (h.books.of_block e5)
  refine ⟨((h.box.of_block e0).setOther ((row_kind h.box).ne kB (by decide)) _).congr (fun j hj => by match j, hj with | 0, _ => rfl | 1, _ => rfl | 2, _ => rfl | 3, _ => rfl | 4, _ => rfl | 5, _ => rfl | 6, _ => rfl | 7, _ => rfl | 8, _ => rfl | 9, _ => rfl),
    (h.cash.of_block e1).setOther ((row_kind h.cash).ne kB (by decide)) _, (h.slots.of_block e2).setOther ((row_kind h.slots).ne kB (by decide)) _, fun u hu => ((h.sl u hu).of_block (e3 u hu)).setOther ((row_kind (h.sl u hu)).ne kB (by decide)) _,
    (h.modes.of_block e4).setOther ((row_kind h.modes).ne kB (by decide)) _, ((h.books.of_block e5).set v v').congr (fun j _ => by unfold upd; rfl), fun u hu => ?_, (h.came.of_block e6).setOther ((row_kind h.came).ne kB (by decide)) _,
    (h.lasts.of_block e7).setOther ((row_kind h.lasts).ne kB (by decide)) _, (h.texts.of_block e8).setOther ((row_kind h.texts).ne kB (by decide)) _, (h.errs.of_block e9).setOther ((row_kind h.errs).ne kB (by decide)) _, h.d1, h.d2, h.e1, h.e2, h.e3, fun k h0 h1 => ?_⟩
  · by_cases e : u = v
    · subst e
      show World.ownsRow _ 0 122 5 (upd b.bv u v' u) (upd M.bk u r u).length (standC (upd M.bk u r u))
      rw [upd_self, upd_self]
      exact own_set ho kB1 (by decide)
    · show World.ownsRow _ 0 122 5 (upd b.bv v v' u) (upd M.bk v r u).length (standC (upd M.bk v r u))
      rw [upd_ne _ _ e, upd_ne _ _ e]
      refine own_set (own_block (h.bk u hu) (fun k hk => hs k (.inr (.inr (.inr (.inr (.inr (.inr (.inr (.inr (.inr (.inr ⟨u, hu, hk⟩)))))))))) (fun e' => ?_))) kB1 (by decide)
      rcases (show u = 0 ∧ v = 1 ∨ u = 1 ∧ v = 0 by omega) with ⟨rfl, rfl⟩ | ⟨rfl, rfl⟩
      · exact h.vv k hk e'
      · exact h.vv k e' hk
  · have h0' : (upd b.bv v v' 0).ownBlock = some k := h0
    have h1' : (upd b.bv v v' 1).ownBlock = some k := h1
    rcases (show v = 0 ∨ v = 1 by omega) with rfl | rfl
    · rw [upd_self] at h0'
      rw [upd_ne _ _ (by omega)] at h1'
      rcases hn k h0' with e | e
      · exact h.vv k e h1'
      · have := ((h.bk 1 (by omega)).lt k h1').2; omega
    · rw [upd_ne _ _ (by omega)] at h0'
      rw [upd_self] at h1'
      rcases hn k h1' with e | e
      · exact h.vv k h0' e
      · have := ((h.bk 0 (by omega)).lt k h0').2; omega
/-- the blocks behind it -/
theorem rb_new {w : World} {p v : Nat} {b : RB} {v' : Value} (hv : v < 2) (hn : ∀ k, v'.ownBlock = some k → (b.bv v).ownBlock = some k ∨ w.heap.size ≤ k) : ∀ k, RB.has { b with bv := upd b.bv v v' } p k → b.has p k ∨ w.heap.size ≤ k := by
  rintro k (h | h | h | h | h | h | h | h | h | h | ⟨u, hu, h⟩)
  · exact .inl (.inl h)
  · exact .inl (.inr (.inl h))
  · exact .inl (.inr (.inr (.inl h)))
  · exact .inl (.inr (.inr (.inr (.inl h))))
  · exact .inl (.inr (.inr (.inr (.inr (.inl h)))))
  · exact .inl (.inr (.inr (.inr (.inr (.inr (.inl h))))))
  · exact .inl (.inr (.inr (.inr (.inr (.inr (.inr (.inl h)))))))
  · exact .inl (.inr (.inr (.inr (.inr (.inr (.inr (.inr (.inl h))))))))
  · exact .inl (.inr (.inr (.inr (.inr (.inr (.inr (.inr (.inr (.inl h)))))))))
  · exact .inl (.inr (.inr (.inr (.inr (.inr (.inr (.inr (.inr (.inr (.inl h))))))))))
  · have h' : (upd b.bv v v' u).ownBlock = some k := h
    by_cases e : u = v
    · subst e
      rw [upd_self] at h'
      rcases hn k h' with e | e
      · exact .inl (.inr (.inr (.inr (.inr (.inr (.inr (.inr (.inr (.inr (.inr ⟨u, hu, e⟩))))))))))
      · exact .inr e
    · rw [upd_ne _ _ e] at h'
      exact .inl (.inr (.inr (.inr (.inr (.inr (.inr (.inr (.inr (.inr (.inr ⟨u, hu, h'⟩))))))))))
theorem Tryz.infoStand : (Tryz.prog.info? 122).map (fun i => (i.zero, i.size, i.bytes)) = some (some (.agg #[.int .i64 0, .int .i64 0, .bool false, .int .i64 0, .int .i64 0]), 5, 40) := by kernel_rfl

end Go.Proofs.YtmebcdpdpcpnmaaGreatDoor
