import Derived.Test.YtmebcdpdpcpnmaaGreatDoorJ24
import Derived.Test.YtmebcdpdpcpnmaaGreatDoorJ14
namespace Go.Proofs.YtmebcdpdpcpnmaaGreatDoor
open Go.RowKit

theorem PM.slot {w : World} {p : Nat} {vb : Nat → Value} {M : Mk.Mkt} (h : PM w p vb M) {v c : Nat} (hv : v < 2) (hc : c < 4) : w.cell? ⟨p, c * 6 + 2 + v * 2, none⟩ = some (.int .i64 (M.sf v c)) := by
  rcases (show v = 0 ∨ v = 1 by omega) with rfl | rfl
  · exact h.ac hc (k := 2) (by omega)
  · exact h.ac hc (k := 4) (by omega)

set_option maxRecDepth 100000 in
set_option maxHeartbeats 2000000 in
theorem pbring_any (p : Nat) (vb : Nat → Value) (M : Mk.Mkt) (who : Nat) (r : Int) (t : ByteArray) (v : Nat) (a pr q o : Int) (m : Bool) (w : World) (hM : M.Fine) (hP : PM w p vb M) (hw : who < 4) (hv : v < 2) (hn : 0 ≤ a ∧ a ≤ 9999) :
    Calls Tryz.prog 102 #[.pointer (some ⟨p, 0, none⟩), rqA who r t v a pr q o m] w fun e w' => PDoes p vb (Mk.bringM M v who a) w e w' := by
  have HM : Hid M.Fine := hM
  have HB1 : Hid (Below w.heap.size w (w.alloc (rqO who r t v a pr q o m))) := (Below.refl _ _).alloc (Nat.le_refl _) _
  have HP1 : Hid (PM (w.alloc (rqO who r t v a pr q o m)) p vb M) := hP.below HB1.out
  have x0 : (w.alloc (rqO who r t v a pr q o m)).cell? ⟨w.heap.size, 0, none⟩ = some (.int .i64 (who : Int)) := by simp
  have x4 : (w.alloc (rqO who r t v a pr q o m)).cell? ⟨w.heap.size, 4, none⟩ = some (.int .i64 a) := by simp
  have hsz : w.heap.size < (w.alloc (rqO who r t v a pr q o m)).heap.size := by simp
  have hw' : (who : Int) < 4 := by omega
  have x3 : (w.alloc (rqO who r t v a pr q o m)).cell? ⟨w.heap.size, 3, none⟩ = some (.int .i64 (v : Int)) := by simp
  have hv' : (v : Int) < 2 := by omega
  have HBd : Hid (∀ c, c < 4 → 0 ≤ M.sf v c ∧ M.sf v c ≤ 9999 ∧ 0 ≤ M.sh v c ∧ M.sh v c ≤ 9999) := fun c hc => ⟨(hM.sf v c hv hc).1, (hM.sf v c hv hc).2, (hM.sh v c hv hc).1, (hM.sh v c hv hc).2⟩
  have tb := totTo_bd HBd.out 4 (by omega)
  clear hM hP
  go_enter Tryz.func102, Tryz.ntmps102
  go_upto_region 1 with fail
  generalize w.alloc (rqO who r t v a pr q o m) = W1 at *
  have hwr : IntKind.i64.wrap (totTo (M.sf v) (M.sh v) 4 + a) = totTo (M.sf v) (M.sh v) 4 + a := IntWalk.i64_in _ (by omega)
  have c4 : ∀ u : Wof (Below W1.heap.size W1), u.val.cell? ⟨w.heap.size, 4, none⟩ = some (.int .i64 a) := fun u => (u.ok.cell (p := ⟨w.heap.size, 4, none⟩) hsz).trans x4
  have c3 : ∀ u : Wof (Below W1.heap.size W1), u.val.cell? ⟨w.heap.size, 3, none⟩ = some (.int .i64 (v : Int)) := fun u => (u.ok.cell (p := ⟨w.heap.size, 3, none⟩) hsz).trans x3
  have hne : Nonempty (Wof (Below W1.heap.size W1)) := ⟨⟨W1, Below.refl _ _⟩⟩
  refine wp_region_calls (S := Below W1.heap.size W1) (by kernel_rfl) (by kernel_rfl) (Below.refl _ _).drew ?_
  repeat (quiet_step ((rename_i u; refine (allSlots_any p vb M v _ hv HM.out (HP1.out.below u.ok)).mono ?_; rintro e w3 ⟨rfl, hb3⟩; exact ⟨rfl, ⟨w3, u.ok.trans (hb3.mono u.ok.size)⟩, rfl⟩)))
  refine wpQuiet_nil ?_
  rintro _ ⟨u, rfl⟩
  have HB2 : Hid (Below w.heap.size w u.val) := HB1.out.trans (u.ok.mono HB1.out.size)
  have HP2 : Hid (PM u.val p vb M) := HP1.out.below u.ok
  have y0 : u.val.cell? ⟨w.heap.size, 0, none⟩ = some (.int .i64 (who : Int)) := (u.ok.cell (p := ⟨w.heap.size, 0, none⟩) hsz).trans x0
  have y4 : u.val.cell? ⟨w.heap.size, 4, none⟩ = some (.int .i64 a) := c4 u
  have y3 : u.val.cell? ⟨w.heap.size, 3, none⟩ = some (.int .i64 (v : Int)) := c3 u
  clear c3 c4 x0 x3 x4 hne
  generalize u.val = W2 at *
  have f0 := HP2.out.slot hv hw
  have z0 := HP2.out.box.frozen (who * 6 + 2 + v * 2)
  have bf := HM.out.sf v who hv hw
  have HV : Hid (v < 2) := hv
  have HW : Hid (who < 4) := hw
  by_cases hbig : 999 < totTo (M.sf v) (M.sh v) 4 + a
  · have HX : Hid (Mk.bringM M v who a = (6, M)) := if_pos hbig
    go_wp2_with fail
    go_ret
    exact ⟨by rw [HX.out]; rfl, by rw [HX.out]; exact HP2.out, Only.of_below HB2.out⟩
  · have HX : Hid (Mk.bringM M v who a = (0, { M with sf := upd M.sf v (upd (M.sf v) who (M.sf v who + a)) })) := if_neg hbig
    go_wp2_with fail
    go_region
    go_wp2_with fail
    go_ret
    refine ⟨by rw [HX.out]; rfl, by rw [HX.out]; exact (HP2.out.setSf HV.out HW.out _).below (Below.refl _ _).drew, ?_⟩
    exact ((Only.of_below HB2.out).set (show PHas p vb p from .inl rfl) _).next (Below.refl _ _).drew

set_option maxRecDepth 100000 in
set_option maxHeartbeats 2000000 in
theorem pfetch_any (p : Nat) (vb : Nat → Value) (M : Mk.Mkt) (who : Nat) (r : Int) (t : ByteArray) (v : Nat) (a pr q o : Int) (m : Bool) (w : World) (hM : M.Fine) (hP : PM w p vb M) (hw : who < 4) (hv : v < 2) (hn : 0 ≤ a ∧ a ≤ 9999) :
    Calls Tryz.prog 103 #[.pointer (some ⟨p, 0, none⟩), rqA who r t v a pr q o m] w fun e w' => PDoes p vb (Mk.fetchM M v who a) w e w' := by
  have HB1 : Hid (Below w.heap.size w (w.alloc (rqO who r t v a pr q o m))) := (Below.refl _ _).alloc (Nat.le_refl _) _
  have HP1 : Hid (PM (w.alloc (rqO who r t v a pr q o m)) p vb M) := hP.below HB1.out
  have x0 : (w.alloc (rqO who r t v a pr q o m)).cell? ⟨w.heap.size, 0, none⟩ = some (.int .i64 (who : Int)) := by simp
  have x4 : (w.alloc (rqO who r t v a pr q o m)).cell? ⟨w.heap.size, 4, none⟩ = some (.int .i64 a) := by simp
  have x3 : (w.alloc (rqO who r t v a pr q o m)).cell? ⟨w.heap.size, 3, none⟩ = some (.int .i64 (v : Int)) := by simp
  have hw' : (who : Int) < 4 := by omega
  have hv' : (v : Int) < 2 := by omega
  have bf := hM.sf v who hv hw
  have HV : Hid (v < 2) := hv
  have HW : Hid (who < 4) := hw
  clear hM hP
  go_enter Tryz.func103, Tryz.ntmps103
  go_upto_region 1 with fail
  generalize w.alloc (rqO who r t v a pr q o m) = W1 at *
  have f0 := HP1.out.slot hv hw
  have z0 := HP1.out.box.frozen (who * 6 + 2 + v * 2)
  by_cases hbig : M.sf v who < a
  · have HX : Hid (Mk.fetchM M v who a = (5, M)) := if_pos hbig
    go_region_with (go_at_call 114; (refine (take_no p (who * 6 + 2 + v * 2) (M.sf v who) a _ (by simpa using f0) hbig).mono ?_; rintro e w2 ⟨rfl, hw2⟩))
    all_goals
      obtain rfl := hw2
      go_wp2_with fail
      go_ret
      exact ⟨by rw [HX.out]; rfl, by rw [HX.out]; exact HP1.out.below (Below.refl _ _).drew, Only.of_below HB1.out.drew⟩
  · have HX : Hid (Mk.fetchM M v who a = (0, { M with sf := upd M.sf v (upd (M.sf v) who (M.sf v who - a)) })) := if_neg hbig
    go_region_with (go_at_call 114; (refine (take_yes p (who * 6 + 2 + v * 2) (M.sf v who) a _ (by simpa using f0) (by simpa using z0) bf hn (by omega)).mono ?_; rintro e w2 ⟨rfl, hw2⟩))
    all_goals
      obtain rfl := hw2
      go_wp2_with fail
      go_ret
      refine ⟨by rw [HX.out]; rfl, by rw [HX.out]; exact (HP1.out.below (Below.refl _ _).drew).setSf HV.out HW.out _, ?_⟩
      exact (Only.of_below HB1.out.drew).set (show PHas p vb p from .inl rfl) _

end Go.Proofs.YtmebcdpdpcpnmaaGreatDoor

namespace Go.Proofs.YtmebcdpdpcpnmaaGreatDoor
open Go.RowKit

theorem PM.book {w : World} {p : Nat} {vb : Nat → Value} {M : Mk.Mkt} (h : PM w p vb M) {v : Nat} (hv : v < 2) : ∃ a cap, vb v = .slice a (M.bk v).length cap := by
  rcases (h.bk v hv).2 with ⟨e, h0⟩ | ⟨g, cap, cur, e, _⟩
  · exact ⟨none, 0, by rw [e, h0]⟩
  · exact ⟨_, cap, e⟩

set_option maxRecDepth 100000 in
set_option maxHeartbeats 2000000 in
theorem psetMode_any (p : Nat) (vb : Nat → Value) (M : Mk.Mkt) (who : Nat) (r : Int) (t : ByteArray) (v : Nat) (a pr q o : Int) (m : Bool) (w : World) (hM : M.Fine) (hP : PM w p vb M) (hv : v < 2) :
    Calls Tryz.prog 106 #[.pointer (some ⟨p, 0, none⟩), rqA who r t v a pr q o m] w fun e w' => PDoes p vb (Mk.modeM M v m) w e w' := by
  have HB1 : Hid (Below w.heap.size w (w.alloc (rqO who r t v a pr q o m))) := (Below.refl _ _).alloc (Nat.le_refl _) _
  have HP1 : Hid (PM (w.alloc (rqO who r t v a pr q o m)) p vb M) := hP.below HB1.out
  have x3 : (w.alloc (rqO who r t v a pr q o m)).cell? ⟨w.heap.size, 3, none⟩ = some (.int .i64 (v : Int)) := by simp
  have x8 : (w.alloc (rqO who r t v a pr q o m)).cell? ⟨w.heap.size, 8, none⟩ = some (.int .i64 (mdI m)) := by simp
  have hv' : (v : Int) < 2 := by omega
  have HV : Hid (v < 2) := hv
  obtain ⟨ba, bc, hbv⟩ := hP.book hv
  have hlen := hM.len v hv
  clear hM hP
  go_enter Tryz.func106, Tryz.ntmps106
  go_upto_region 1 with fail
  generalize w.alloc (rqO who r t v a pr q o m) = W1 at *
  go_quiet (fail)
  have HB2 : Hid (Below w.heap.size w (W1.drewN nq)) := below_drewN HB1.out nq
  have HP2 : Hid (PM (W1.drewN nq) p vb M) := HP1.out.below (below_drewN (Below.refl _ _) nq)
  have y8 : (W1.drewN nq).cell? ⟨w.heap.size, 8, none⟩ = some (.int .i64 (mdI m)) := by simpa using x8
  clear x3 x8
  generalize W1.drewN nq = W2 at *
  have c1 := HP2.out.vo hv (k := 1) (by omega)
  have c0 := HP2.out.vo hv (k := 0) (by omega)
  have z0 := HP2.out.box.frozen (25 + v * 3)
  simp only [voF, Nat.add_zero] at c0 c1
  rw [hbv] at c1
  clear hbv
  by_cases h0 : 0 < (M.bk v).length
  · have HX : Hid (Mk.modeM M v m = (9, M)) := if_pos h0
    have h0' : (0 : Int) < ((M.bk v).length : Int) := by omega
    clear h0
    go_wp2_with fail
    go_ret
    exact ⟨by rw [HX.out]; rfl, by rw [HX.out]; exact HP2.out, Only.of_below HB2.out⟩
  · have HX : Hid (Mk.modeM M v m = (0, { M with md := upd M.md v m })) := if_neg h0
    have h0' : ¬ (0 : Int) < ((M.bk v).length : Int) := by omega
    clear h0
    go_wp2_with fail
    go_ret
    refine ⟨by rw [HX.out]; rfl, by rw [HX.out]; exact HP2.out.setMd HV.out m, ?_⟩
    exact (Only.of_below HB2.out).set (show PHas p vb p from .inl rfl) _

/-- what carryOut, Do of the program leave: a text, an error, the market -/
def PDoT (p : Nat) (vb : Nat → Value) (x : ByteArray × Int × Mk.Mkt) (w : World) (e : Ending) (w' : World) : Prop :=
  e = .returned (.tuple #[.string x.1, .int .i64 x.2.1]) ∧ ∃ vb', PM w' p vb' x.2.2 ∧ Only (PHas p vb) w w' ∧ ∀ k, PHas p vb' k → PHas p vb k ∨ w.heap.size ≤ k
theorem pdoT_of {p : Nat} {vb : Nat → Value} {x : Int × Mk.Mkt} {w w1 w2 : World} (hb : Below w.heap.size w w1) (hR : PM w2 p vb x.2) (ho : Only (PHas p vb) w1 w2) : PDoT p vb (⟨#[]⟩, x.1, x.2) w (.returned (.tuple #[.string ⟨#[]⟩, .int .i64 x.1])) w2 :=
  ⟨rfl, vb, hR, (Only.of_below hb).trans ho (fun _ _ h => h), fun _ h => .inl h⟩

set_option maxRecDepth 100000 in
set_option maxHeartbeats 2000000 in
theorem carry_pay (p : Nat) (vb : Nat → Value) (M : Mk.Mkt) (who : Nat) (r : Int) (vo a pr q o : Int) (m : Bool) (w : World) (hM : M.Fine) (hP : PM w p vb M) (hw : who < 4) (hn : 0 ≤ a ∧ a ≤ 9999) :
    Calls Tryz.prog 78 #[.pointer (some ⟨p, 0, none⟩), rqA who r ⟨#[112, 97, 121]⟩ vo a pr q o m] w fun e w' => PDoT p vb (⟨#[]⟩, (Mk.payM M who a).1, (Mk.payM M who a).2) w e w' := by
  have HM : Hid M.Fine := hM
  have HB1 : Hid (Below w.heap.size w (w.alloc (rqO who r ⟨#[112, 97, 121]⟩ vo a pr q o m))) := (Below.refl _ _).alloc (Nat.le_refl _) _
  have HP1 : Hid (PM (w.alloc (rqO who r ⟨#[112, 97, 121]⟩ vo a pr q o m)) p vb M) := hP.below HB1.out
  clear hM hP
  go_enter Tryz.func78, Tryz.ntmps78
  go_wp2_with fail
  refine (ppay_any p vb M who r ⟨#[112, 97, 121]⟩ vo a pr q o m _ HM.out HP1.out hw hn).mono ?_
  rintro e w2 ⟨rfl, hR2, ho⟩
  have HD : Hid (PDoT p vb (⟨#[]⟩, (Mk.payM M who a).1, (Mk.payM M who a).2) w (.returned (.tuple #[.string ⟨#[]⟩, .int .i64 (Mk.payM M who a).1])) w2) := pdoT_of HB1.out hR2 ho
  clear hR2 ho
  go_wp2_with fail
  refine bodyPost_ret (v := .tuple #[.string ⟨#[]⟩, .int .i64 (Mk.payM M who a).1]) ?_ rfl HD.out
  simp [results, Tryz.results78, go_sem]

set_option maxRecDepth 100000 in
set_option maxHeartbeats 2000000 in
theorem carry_draw (p : Nat) (vb : Nat → Value) (M : Mk.Mkt) (who : Nat) (r : Int) (vo a pr q o : Int) (m : Bool) (w : World) (hM : M.Fine) (hP : PM w p vb M) (hw : who < 4) (hn : 0 ≤ a ∧ a ≤ 9999) :
    Calls Tryz.prog 78 #[.pointer (some ⟨p, 0, none⟩), rqA who r ⟨#[100, 114, 97, 119]⟩ vo a pr q o m] w fun e w' => PDoT p vb (⟨#[]⟩, (Mk.drawM M who a).1, (Mk.drawM M who a).2) w e w' := by
  have HM : Hid M.Fine := hM
  have HB1 : Hid (Below w.heap.size w (w.alloc (rqO who r ⟨#[100, 114, 97, 119]⟩ vo a pr q o m))) := (Below.refl _ _).alloc (Nat.le_refl _) _
  have HP1 : Hid (PM (w.alloc (rqO who r ⟨#[100, 114, 97, 119]⟩ vo a pr q o m)) p vb M) := hP.below HB1.out
  clear hM hP
  go_enter Tryz.func78, Tryz.ntmps78
  go_wp2_with fail
  refine (pdraw_any p vb M who r ⟨#[100, 114, 97, 119]⟩ vo a pr q o m _ HM.out HP1.out hw hn).mono ?_
  rintro e w2 ⟨rfl, hR2, ho⟩
  have HD : Hid (PDoT p vb (⟨#[]⟩, (Mk.drawM M who a).1, (Mk.drawM M who a).2) w (.returned (.tuple #[.string ⟨#[]⟩, .int .i64 (Mk.drawM M who a).1])) w2) := pdoT_of HB1.out hR2 ho
  clear hR2 ho
  go_wp2_with fail
  refine bodyPost_ret (v := .tuple #[.string ⟨#[]⟩, .int .i64 (Mk.drawM M who a).1]) ?_ rfl HD.out
  simp [results, Tryz.results78, go_sem]

set_option maxRecDepth 100000 in
set_option maxHeartbeats 2000000 in
theorem carry_bring (p : Nat) (vb : Nat → Value) (M : Mk.Mkt) (who : Nat) (r : Int) (v : Nat) (a pr q o : Int) (m : Bool) (w : World) (hM : M.Fine) (hP : PM w p vb M) (hw : who < 4) (hv : v < 2) (hn : 0 ≤ a ∧ a ≤ 9999) :
    Calls Tryz.prog 78 #[.pointer (some ⟨p, 0, none⟩), rqA who r ⟨#[98, 114, 105, 110, 103]⟩ v a pr q o m] w fun e w' => PDoT p vb (⟨#[]⟩, (Mk.bringM M v who a).1, (Mk.bringM M v who a).2) w e w' := by
  have HM : Hid M.Fine := hM
  have HB1 : Hid (Below w.heap.size w (w.alloc (rqO who r ⟨#[98, 114, 105, 110, 103]⟩ v a pr q o m))) := (Below.refl _ _).alloc (Nat.le_refl _) _
  have HP1 : Hid (PM (w.alloc (rqO who r ⟨#[98, 114, 105, 110, 103]⟩ v a pr q o m)) p vb M) := hP.below HB1.out
  clear hM hP
  go_enter Tryz.func78, Tryz.ntmps78
  go_wp2_with fail
  refine (pbring_any p vb M who r ⟨#[98, 114, 105, 110, 103]⟩ v a pr q o m _ HM.out HP1.out hw hv hn).mono ?_
  rintro e w2 ⟨rfl, hR2, ho⟩
  have HD : Hid (PDoT p vb (⟨#[]⟩, (Mk.bringM M v who a).1, (Mk.bringM M v who a).2) w (.returned (.tuple #[.string ⟨#[]⟩, .int .i64 (Mk.bringM M v who a).1])) w2) := pdoT_of HB1.out hR2 ho
  clear hR2 ho
  go_wp2_with fail
  refine bodyPost_ret (v := .tuple #[.string ⟨#[]⟩, .int .i64 (Mk.bringM M v who a).1]) ?_ rfl HD.out
  simp [results, Tryz.results78, go_sem]

set_option maxRecDepth 100000 in
set_option maxHeartbeats 2000000 in
theorem carry_fetch (p : Nat) (vb : Nat → Value) (M : Mk.Mkt) (who : Nat) (r : Int) (v : Nat) (a pr q o : Int) (m : Bool) (w : World) (hM : M.Fine) (hP : PM w p vb M) (hw : who < 4) (hv : v < 2) (hn : 0 ≤ a ∧ a ≤ 9999) :
    Calls Tryz.prog 78 #[.pointer (some ⟨p, 0, none⟩), rqA who r ⟨#[102, 101, 116, 99, 104]⟩ v a pr q o m] w fun e w' => PDoT p vb (⟨#[]⟩, (Mk.fetchM M v who a).1, (Mk.fetchM M v who a).2) w e w' := by
  have HM : Hid M.Fine := hM
  have HB1 : Hid (Below w.heap.size w (w.alloc (rqO who r ⟨#[102, 101, 116, 99, 104]⟩ v a pr q o m))) := (Below.refl _ _).alloc (Nat.le_refl _) _
  have HP1 : Hid (PM (w.alloc (rqO who r ⟨#[102, 101, 116, 99, 104]⟩ v a pr q o m)) p vb M) := hP.below HB1.out
  clear hM hP
  go_enter Tryz.func78, Tryz.ntmps78
  go_wp2_with fail
  refine (pfetch_any p vb M who r ⟨#[102, 101, 116, 99, 104]⟩ v a pr q o m _ HM.out HP1.out hw hv hn).mono ?_
  rintro e w2 ⟨rfl, hR2, ho⟩
  have HD : Hid (PDoT p vb (⟨#[]⟩, (Mk.fetchM M v who a).1, (Mk.fetchM M v who a).2) w (.returned (.tuple #[.string ⟨#[]⟩, .int .i64 (Mk.fetchM M v who a).1])) w2) := pdoT_of HB1.out hR2 ho
  clear hR2 ho
  go_wp2_with fail
  refine bodyPost_ret (v := .tuple #[.string ⟨#[]⟩, .int .i64 (Mk.fetchM M v who a).1]) ?_ rfl HD.out
  simp [results, Tryz.results78, go_sem]

set_option maxRecDepth 100000 in
set_option maxHeartbeats 2000000 in
theorem carry_mode (p : Nat) (vb : Nat → Value) (M : Mk.Mkt) (who : Nat) (r : Int) (v : Nat) (a pr q o : Int) (m : Bool) (w : World) (hM : M.Fine) (hP : PM w p vb M) (hv : v < 2) :
    Calls Tryz.prog 78 #[.pointer (some ⟨p, 0, none⟩), rqA who r ⟨#[109, 111, 100, 101]⟩ v a pr q o m] w fun e w' => PDoT p vb (⟨#[]⟩, (Mk.modeM M v m).1, (Mk.modeM M v m).2) w e w' := by
  have HM : Hid M.Fine := hM
  have HB1 : Hid (Below w.heap.size w (w.alloc (rqO who r ⟨#[109, 111, 100, 101]⟩ v a pr q o m))) := (Below.refl _ _).alloc (Nat.le_refl _) _
  have HP1 : Hid (PM (w.alloc (rqO who r ⟨#[109, 111, 100, 101]⟩ v a pr q o m)) p vb M) := hP.below HB1.out
  clear hM hP
  go_enter Tryz.func78, Tryz.ntmps78
  go_wp2_with fail
  refine (psetMode_any p vb M who r ⟨#[109, 111, 100, 101]⟩ v a pr q o m _ HM.out HP1.out hv).mono ?_
  rintro e w2 ⟨rfl, hR2, ho⟩
  have HD : Hid (PDoT p vb (⟨#[]⟩, (Mk.modeM M v m).1, (Mk.modeM M v m).2) w (.returned (.tuple #[.string ⟨#[]⟩, .int .i64 (Mk.modeM M v m).1])) w2) := pdoT_of HB1.out hR2 ho
  clear hR2 ho
  go_wp2_with fail
  refine bodyPost_ret (v := .tuple #[.string ⟨#[]⟩, .int .i64 (Mk.modeM M v m).1]) ?_ rfl HD.out
  simp [results, Tryz.results78, go_sem]

end Go.Proofs.YtmebcdpdpcpnmaaGreatDoor

/- A region in any order whose operations are quiet but for one that waits, through whatever chain, for all the others. -/
namespace Go
section
variable {P : Program} {md : Region.Mode} {C : World → Prop} {ops ops' : Array Oper} {m : Nat} {o o' : Oper}

theorem getD_set_mono {L : Array Bool} {i j : Nat} (h : L.getD j false = true) : (L.setIfInBounds i true).getD j false = true := by
  simp only [Array.getD_eq_getD_getElem?, Array.getElem?_setIfInBounds] at h ⊢
  split
  · split
    · rfl
    · rename_i h1 h2
      subst h1
      rw [Array.getElem?_eq_none (by omega)] at h
      exact h
  · exact h
/-- what was done had done all that it waits for -/
def Settled2 (md : Region.Mode) (ops : Array Oper) (L : Array Bool) : Prop := ∀ i x, ops[i]? = some x → L.getD i false = true → ∀ e ∈ x.after, Region.binds md e = true → L.getD e.on false = true
theorem Settled2.set {L : Array Bool} (h : Settled2 md ops L) {i : Nat} (hi : i ∈ Region.ready md ops L) : Settled2 md ops (L.setIfInBounds i true) := by
  intro j x hx hj e he hb
  by_cases ej : j = i
  · subst ej
    obtain ⟨_, x', hx', hdep⟩ := mem_ready.1 hi
    rw [hx] at hx'
    cases hx'
    exact getD_set_mono (hdep e he hb)
  · refine getD_set_mono (h j x hx ?_ e he hb)
    simp only [Array.getD_eq_getD_getElem?, Array.getElem?_setIfInBounds] at hj ⊢
    rwa [if_neg (Ne.symm ej)] at hj
theorem settled2_none (n : Nat) : Settled2 md ops (Array.replicate n false) := by
  intro i x _ hi
  exfalso
  simp only [Array.getD_eq_getD_getElem?, Array.getElem?_replicate] at hi
  split at hi <;> simp at hi

theorem wpAny_of_quiet_last2 {Q : Exit → Act → World → Prop} (hm : ops[m]? = some o) (hm' : ops'[m]? = some o') (heq : ∀ i, i ≠ m → ops'[i]? = ops[i]?) (hsz : ops'.size = ops.size) (haft : o'.after = o.after)
    (hg : ∀ (i : Nat) (x : Oper), ops[i]? = some x → x.guard = none) (hg' : o'.guard = none) (hd' : o'.dst = none)
    (hlow : ∀ i x, ops[i]? = some x → ∀ e ∈ x.after, Region.binds md e = true → e.on < i) (huse : ∀ j, j < ops.size → j ≠ m → ∃ i x, ops[i]? = some x ∧ j < i ∧ ∃ e ∈ x.after, Region.binds md e = true ∧ e.on = j) (hmax : ops.size = m + 1) :
    ∀ n L a w, L.size = ops.size → L.getD m true = false → Settled2 md ops L → C w → wpAnyQ P md ops' C (fun a' => ∀ w', C w' → o.wp P a' w' (fun a w => Q .normal a w) Q) n L a → wpAny P md ops Q n L a w := by
  have hready : ∀ L, Region.ready md ops' L = Region.ready md ops L := by
    intro L
    unfold Region.ready
    rw [hsz]
    refine List.filter_congr (fun i _ => ?_)
    by_cases e : i = m
    · subst e; rw [hm, hm']; simp [haft]
    · rw [heq i e]
  intro n
  induction n with
  | zero =>
    intro L a w _ hL _ _ h
    exact absurd ((hready L).symm.trans h.1) (ready_ne hlow L m o hm hL)
  | succ n ih =>
    intro L a w hs hL hSh hC h
    refine ⟨fun hn => absurd hn (ready_ne hlow L m o hm hL), fun i hi => ?_⟩
    have hq := h.2 i (by rw [hready]; exact hi)
    by_cases e : i = m
    · subst e
      have hall : Region.ready md ops (L.setIfInBounds i true) = [] := by
        apply List.eq_nil_iff_forall_not_mem.2
        intro j hj
        obtain ⟨hj1, x, hx, _⟩ := mem_ready.1 hj
        have hjl : j < ops.size := (Array.getElem?_eq_some_iff.1 hx).1
        obtain ⟨_, x', hx', hdep⟩ := mem_ready.1 hi
        rw [hm] at hx'
        cases hx'
        by_cases e : j = i
        · subst e; simp [hs, hjl] at hj1
        · have hall : ∀ d, ∀ j, i - j = d → j < i → L.getD j false = true := by
            intro d
            induction d using Nat.strongRecOn with
            | _ d ihd =>
              intro j hd hji
              obtain ⟨i', x', hx', hlt, e', he', hb', rfl⟩ := huse j (by omega) (by omega)
              have hi' : i' < ops.size := (Array.getElem?_eq_some_iff.1 hx').1
              by_cases ei : i' = i
              · subst ei
                rw [hm] at hx'
                cases hx'
                exact hdep e' he' hb'
              · exact hSh i' x' hx' (ihd (i - i') (by omega) i' rfl (by omega)) e' he' hb'
          have := hall _ j rfl (by omega)
          have hl : j < L.size := by omega
          simp [hl] at this
          simp [hl, Ne.symm e, this] at hj1
      have hQ0 : ∀ w', C w' → o.wp P a w' (fun a w => Q .normal a w) Q := by
        have hq' : wpAnyQ P md ops' C (fun a' => ∀ w', C w' → o.wp P a' w' (fun a w => Q .normal a w) Q) n (L.setIfInBounds i true) a := by
          unfold qOp at hq
          simp only [hm'] at hq
          have hw : Region.wanted o' (yielded ops' a.tmps) = true := by simp [Region.wanted, hg']
          simp only [hw, if_true] at hq
          obtain ⟨v, hv, hk⟩ := hq
          rw [hd'] at hk
          exact hk
        cases n with
        | zero => exact hq'.2
        | succ k => exact hq'.1 (by rw [hready]; exact hall)
      unfold wpOp
      simp only [hm]
      have hw : Region.wanted o (yielded ops a.tmps) = true := by simp [Region.wanted, hg i o hm]
      simp only [hw, if_true]
      left
      refine Oper.wp_mono (fun a' w' hk => ?_) (hQ0 w hC)
      cases n with
      | zero => exact ⟨hall, hk⟩
      | succ k => exact ⟨fun _ => hk, fun j hj => by rw [hall] at hj; cases hj⟩
    · have h1 : wpOp P ops' Q i (wpAny P md ops Q n (L.setIfInBounds i true)) a w := by
        refine wpOp_of_qOp hC (fun a' w' hc hk => ih _ a' w' (by simpa using hs) ?_ (hSh.set hi) hc hk) hq
        simp [e] at hL ⊢
        exact hL
      obtain ⟨_, x, hx, _⟩ := mem_ready.1 hi
      unfold wpOp at h1 ⊢
      rw [heq i e, hx] at h1
      rw [hx]
      have hw : ∀ ps : Array Oper, Region.wanted x (yielded ps a.tmps) = true := fun ps => by simp [Region.wanted, hg i x hx]
      simp only [hw, if_true] at h1 ⊢
      exact h1
end

def lastB2 (l : List Oper) (o : Oper) : Bool :=
  (l ++ [o]).all (fun x => x.guard.isNone) && (l ++ [o]).zipIdx.all (fun xi => xi.1.after.all fun e => !Region.binds .any e || decide (e.on < xi.2)) && (List.range l.length).all (fun j => (l ++ [o]).zipIdx.any fun xi => decide (j < xi.2) && xi.1.after.any fun e => Region.binds .any e && e.on == j) && Region.lexB .any (l ++ [struck o]).toArray

theorem wp_region_quiet_last2 {P : Program} {C : World → Prop} {id : Nat} {Q : Exit → Act → World → Prop} {a : Act} {w : World} (l : List Oper) (o : Oper) (hm : P.follows .mixedOrders = true) (hB : lastB2 l o = true) (hC : C { w with drawn := w.drawn + 1 })
    (h : wpQuiet P (l ++ [struck o]).toArray C (fun a' => ∀ w', C w' → o.wp P a' w' (fun a w => Q .normal a w) Q) l a) : (Code.region id (l ++ [o]).toArray true).wp P Q a w := by
  simp only [lastB2, Bool.and_eq_true] at hB
  obtain ⟨⟨⟨hB1, hB2⟩, hB3⟩, hB4⟩ := hB
  simp only [Region.lexB, Bool.and_eq_true] at hB4
  refine wp_region_any hm ?_
  have hlen : ((l ++ [o]).toArray).size = l.length + 1 := by simp
  refine wpAny_of_quiet_last2 (C := C) (ops := (l ++ [o]).toArray) (ops' := (l ++ [struck o]).toArray) (m := l.length) (o := o) (o' := struck o) (by simp) (by simp) ?_ (by simp) rfl ?_ ?_ rfl ?_ ?_ (by simp) _ _ a _ (by simp) (by simp) (settled2_none _) hC ?_
  · intro i hi
    simp only [List.getElem?_toArray]
    rcases Nat.lt_or_ge i l.length with h | h
    · rw [List.getElem?_append_left h, List.getElem?_append_left h]
    · rw [List.getElem?_append_right h, List.getElem?_append_right h]
      have : i - l.length ≠ 0 := by omega
      cases hk : i - l.length with
      | zero => omega
      | succ k => rfl
  · intro i x hx
    simp only [List.getElem?_toArray] at hx
    have := List.all_eq_true.1 hB1 x (List.mem_of_getElem? hx)
    simpa using this
  · have := List.all_eq_true.1 hB1 o (by simp)
    simpa [struck] using this
  · intro i x hx e he hb
    simp only [List.getElem?_toArray] at hx
    have h1 := List.all_eq_true.1 hB2 (x, i) (by rw [List.mem_zipIdx_iff_getElem?]; simpa using hx)
    have h2 := (Array.all_eq_true_iff_forall_mem.1 h1) e he
    simpa [hb] using h2
  · intro j hj hne
    have hj' : j < l.length := by simp at hj; omega
    have h1 := List.all_eq_true.1 hB3 j (List.mem_range.2 hj')
    obtain ⟨xi, hxi, hy⟩ := List.any_eq_true.1 h1
    rw [List.mem_zipIdx_iff_getElem?] at hxi
    simp only [Bool.and_eq_true, decide_eq_true_eq] at hy
    obtain ⟨k, hk, hx⟩ := Array.any_eq_true.1 hy.2
    simp at hx
    exact ⟨xi.2, xi.1, by simpa using hxi, hy.1, xi.1.after[k], Array.getElem_mem hk, hx.1, hx.2⟩
  · have hq : wpQuiet P (l ++ [struck o]).toArray C (fun a' => ∀ w', C w' → o.wp P a' w' (fun a w => Q .normal a w) Q) (l ++ [struck o]) a := by
      have hgs : (struck o).guard = none := by
        have := List.all_eq_true.1 hB1 o (by simp)
        simpa [struck] using this
      exact wpQuiet_struck hgs l a h
    have := wpAnyQ_lex (C := C) (md := .any) hB4.1 (l ++ [struck o]) 0 (Array.replicate (l ++ [o]).toArray.size false) a (by simp) (by simpa using hB4.2) hq
    simpa using this

theorem wp_region_last2_lit {P : Program} {S : World → Prop} {id : Nat} {Q : Exit → Act → World → Prop} {a : Act} {w : World} {l0 : List Oper} (hne : l0 ≠ []) (hm : P.follows .mixedOrders = true) (hB : lastB2 l0.dropLast (l0.getLast hne) = true) (hC : S { w with drawn := w.drawn + 1 })
    (h : wpQuiet P (l0.dropLast ++ [struck (l0.getLast hne)]).toArray (fun w' => ∃ u : Wof S, w' = u.val) (fun a' => ∀ w', (∃ u : Wof S, w' = u.val) → (l0.getLast hne).wp P a' w' (fun a w => Q .normal a w) Q) l0.dropLast a) : (Code.region id l0.toArray true).wp P Q a w := by
  have e := List.dropLast_concat_getLast hne
  have := wp_region_quiet_last2 (C := fun w' => ∃ u : Wof S, w' = u.val) (id := id) l0.dropLast (l0.getLast hne) hm hB ⟨⟨_, hC⟩, rfl⟩ h
  rwa [e] at this

end Go
