import Derived.Test.YtljeahgpkeohlaaGreatDoorJ28
namespace Go.Proofs.YtljeahgpkeohlaaGreatDoor
open Go.RowKit

theorem PM.slot {w : World} {p : Nat} {vb : Nat → Value} {M : Mk.Mkt} (h : PM w p vb M) {v c : Nat} (hv : v < 2) (hc : c < 4) : w.cell? ⟨p, c * 6 + 2 + v * 2, none⟩ = some (.int .i64 (M.sf v c)) := by
  rcases (show v = 0 ∨ v = 1 by omega) with rfl | rfl
  · exact h.ac hc (k := 2) (by omega)
  · exact h.ac hc (k := 4) (by omega)

set_option maxRecDepth 100000 in
set_option maxHeartbeats 2000000 in
theorem pbring_any (p : Nat) (vb : Nat → Value) (M : Mk.Mkt) (who : Nat) (r : Int) (t : ByteArray) (v : Nat) (a pr q o : Int) (m : Bool) (w : World) (hM : M.Fine) (hP : PM w p vb M) (hw : who < 4) (hv : v < 2) (hn : 0 ≤ a ∧ a ≤ 9999) :
    Calls Tryz.prog 80 #[.pointer (some ⟨p, 0, none⟩), rqA who r t v a pr q o m] w fun e w' => PDoes p vb (Mk.bringM M v who a) w e w' := by
  have HM : Hid M.Fine := hM
  have HB1 : Hid (Below w.heap.size w (w.alloc (rqO who r t v a pr q o m))) := (Below.refl _ _).alloc (Nat.le_refl _) _
  have HP1 : Hid (PM (w.alloc (rqO who r t v a pr q o m)) p vb M) := hP.below HB1.out
  have x0 : (w.alloc (rqO who r t v a pr q o m)).cell? ⟨w.heap.size, 0, none⟩ = some (.int .i64 (who : Int)) := by simp
  have x4 : (w.alloc (rqO who r t v a pr q o m)).cell? ⟨w.heap.size, 4, none⟩ = some (.int .i64 a) := by simp
  have hsz : w.heap.size < (w.alloc (rqO who r t v a pr q o m)).heap.size := by simp
  have hw' : (who : Int) < 4 := by omega
  have x3 : (w.alloc (rqO who r t v a pr q o m)).cell? ⟨w.heap.size, 3, none⟩ = some (.int .i64 (v : Int)) := by simp
  have hv' : (v : Int) < 2 := by omega
  have HBd : Hid (∀ c, c < 4 → 0 ≤ M.sf v c ∧ M.sf v c ≤ 9999 ∧ 0 ≤ M.sh v c ∧ M.sh v c ≤ 9999) := fun c hc => ⟨(hM.sf v c hv hc).1, (hM.sf v c hv hc).2, (hM.sh v c hv hc).1, (hM.sh v c hv hc).2⟩
  have tb := totTo_bd HBd.out 4 (by omega)
  clear hM hP
  go_enter Tryz.func80, Tryz.ntmps80
  go_upto_region 1 with fail
  generalize w.alloc (rqO who r t v a pr q o m) = W1 at *
  have hwr : IntKind.i64.wrap (totTo (M.sf v) (M.sh v) 4 + a) = totTo (M.sf v) (M.sh v) 4 + a := IntWalk.i64_in _ (by omega)
  have c4 : ∀ u : Wof (Below W1.heap.size W1), u.val.cell? ⟨w.heap.size, 4, none⟩ = some (.int .i64 a) := fun u => (u.ok.cell (p := ⟨w.heap.size, 4, none⟩) hsz).trans x4
  have c3 : ∀ u : Wof (Below W1.heap.size W1), u.val.cell? ⟨w.heap.size, 3, none⟩ = some (.int .i64 (v : Int)) := fun u => (u.ok.cell (p := ⟨w.heap.size, 3, none⟩) hsz).trans x3
  have hne : Nonempty (Wof (Below W1.heap.size W1)) := ⟨⟨W1, Below.refl _ _⟩⟩
  refine wp_region_calls (S := Below W1.heap.size W1) (by kernel_rfl) (by kernel_rfl) (Below.refl _ _).drew ?_
  repeat (quiet_step ((rename_i u; refine (allSlots_any p vb M v _ hv HM.out (HP1.out.below u.ok)).mono ?_; rintro e w3 ⟨rfl, hb3⟩; exact ⟨rfl, ⟨w3, u.ok.trans (hb3.mono u.ok.size)⟩, rfl⟩)))
  refine wpQuiet_nil ?_
  rintro _ ⟨u, rfl⟩
  have HB2 : Hid (Below w.heap.size w u.val) := HB1.out.trans (u.ok.mono HB1.out.size)
  have HP2 : Hid (PM u.val p vb M) := HP1.out.below u.ok
  have y0 : u.val.cell? ⟨w.heap.size, 0, none⟩ = some (.int .i64 (who : Int)) := (u.ok.cell (p := ⟨w.heap.size, 0, none⟩) hsz).trans x0
  have y4 : u.val.cell? ⟨w.heap.size, 4, none⟩ = some (.int .i64 a) := c4 u
  have y3 : u.val.cell? ⟨w.heap.size, 3, none⟩ = some (.int .i64 (v : Int)) := c3 u
  clear c3 c4 x0 x3 x4 hne
  generalize u.val = W2 at *
  have f0 := HP2.out.slot hv hw
  have z0 := HP2.out.box.frozen (who * 6 + 2 + v * 2)
  have bf := HM.out.sf v who hv hw
  have HV : Hid (v < 2) := hv
  have HW : Hid (who < 4) := hw
  by_cases hbig : 999 < totTo (M.sf v) (M.sh v) 4 + a
  · have HX : Hid (Mk.bringM M v who a = (6, M)) := if_pos hbig
    go_wp2_with fail
    go_ret
    exact ⟨by rw [HX.out]; rfl, by rw [HX.out]; exact HP2.out, Only.of_below HB2.out⟩
  · have HX : Hid (Mk.bringM M v who a = (0, { M with sf := upd M.sf v (upd (M.sf v) who (M.sf v who + a)) })) := if_neg hbig
    go_wp2_with fail
    go_region
    go_wp2_with fail
    go_ret
    refine ⟨by rw [HX.out]; rfl, by rw [HX.out]; exact (HP2.out.setSf HV.out HW.out _).below (Below.refl _ _).drew, ?_⟩
    exact ((Only.of_below HB2.out).set (show PHas p vb p from .inl rfl) _).next (Below.refl _ _).drew

set_option maxRecDepth 100000 in
set_option maxHeartbeats 2000000 in
theorem pfetch_any (p : Nat) (vb : Nat → Value) (M : Mk.Mkt) (who : Nat) (r : Int) (t : ByteArray) (v : Nat) (a pr q o : Int) (m : Bool) (w : World) (hM : M.Fine) (hP : PM w p vb M) (hw : who < 4) (hv : v < 2) (hn : 0 ≤ a ∧ a ≤ 9999) :
    Calls Tryz.prog 81 #[.pointer (some ⟨p, 0, none⟩), rqA who r t v a pr q o m] w fun e w' => PDoes p vb (Mk.fetchM M v who a) w e w' := by
  have HB1 : Hid (Below w.heap.size w (w.alloc (rqO who r t v a pr q o m))) := (Below.refl _ _).alloc (Nat.le_refl _) _
  have HP1 : Hid (PM (w.alloc (rqO who r t v a pr q o m)) p vb M) := hP.below HB1.out
  have x0 : (w.alloc (rqO who r t v a pr q o m)).cell? ⟨w.heap.size, 0, none⟩ = some (.int .i64 (who : Int)) := by simp
  have x4 : (w.alloc (rqO who r t v a pr q o m)).cell? ⟨w.heap.size, 4, none⟩ = some (.int .i64 a) := by simp
  have x3 : (w.alloc (rqO who r t v a pr q o m)).cell? ⟨w.heap.size, 3, none⟩ = some (.int .i64 (v : Int)) := by simp
  have hw' : (who : Int) < 4 := by omega
  have hv' : (v : Int) < 2 := by omega
  have bf := hM.sf v who hv hw
  have HV : Hid (v < 2) := hv
  have HW : Hid (who < 4) := hw
  clear hM hP
  go_enter Tryz.func81, Tryz.ntmps81
  go_upto_region 1 with fail
  generalize w.alloc (rqO who r t v a pr q o m) = W1 at *
  have f0 := HP1.out.slot hv hw
  have z0 := HP1.out.box.frozen (who * 6 + 2 + v * 2)
  by_cases hbig : M.sf v who < a
  · have HX : Hid (Mk.fetchM M v who a = (5, M)) := if_pos hbig
    go_region_with (go_at_call 106; (refine (take_no p (who * 6 + 2 + v * 2) (M.sf v who) a _ (by simpa using f0) hbig).mono ?_; rintro e w2 ⟨rfl, hw2⟩))
    all_goals
      obtain rfl := hw2
      go_wp2_with fail
      go_ret
      exact ⟨by rw [HX.out]; rfl, by rw [HX.out]; exact HP1.out.below (Below.refl _ _).drew, Only.of_below HB1.out.drew⟩
  · have HX : Hid (Mk.fetchM M v who a = (0, { M with sf := upd M.sf v (upd (M.sf v) who (M.sf v who - a)) })) := if_neg hbig
    go_region_with (go_at_call 106; (refine (take_yes p (who * 6 + 2 + v * 2) (M.sf v who) a _ (by simpa using f0) (by simpa using z0) bf hn (by omega)).mono ?_; rintro e w2 ⟨rfl, hw2⟩))
    all_goals
      obtain rfl := hw2
      go_wp2_with fail
      go_ret
      refine ⟨by rw [HX.out]; rfl, by rw [HX.out]; exact (HP1.out.below (Below.refl _ _).drew).setSf HV.out HW.out _, ?_⟩
      exact (Only.of_below HB1.out.drew).set (show PHas p vb p from .inl rfl) _

end Go.Proofs.YtljeahgpkeohlaaGreatDoor

namespace Go.Proofs.YtljeahgpkeohlaaGreatDoor
open Go.RowKit

theorem PM.book {w : World} {p : Nat} {vb : Nat → Value} {M : Mk.Mkt} (h : PM w p vb M) {v : Nat} (hv : v < 2) : ∃ a cap, vb v = .slice a (M.bk v).length cap := by
  rcases (h.bk v hv).2 with ⟨e, h0⟩ | ⟨g, cap, cur, e, _⟩
  · exact ⟨none, 0, by rw [e, h0]⟩
  · exact ⟨_, cap, e⟩

set_option maxRecDepth 100000 in
set_option maxHeartbeats 2000000 in
theorem psetMode_any (p : Nat) (vb : Nat → Value) (M : Mk.Mkt) (who : Nat) (r : Int) (t : ByteArray) (v : Nat) (a pr q o : Int) (m : Bool) (w : World) (hM : M.Fine) (hP : PM w p vb M) (hv : v < 2) :
    Calls Tryz.prog 84 #[.pointer (some ⟨p, 0, none⟩), rqA who r t v a pr q o m] w fun e w' => PDoes p vb (Mk.modeM M v m) w e w' := by
  have HB1 : Hid (Below w.heap.size w (w.alloc (rqO who r t v a pr q o m))) := (Below.refl _ _).alloc (Nat.le_refl _) _
  have HP1 : Hid (PM (w.alloc (rqO who r t v a pr q o m)) p vb M) := hP.below HB1.out
  have x3 : (w.alloc (rqO who r t v a pr q o m)).cell? ⟨w.heap.size, 3, none⟩ = some (.int .i64 (v : Int)) := by simp
  have x8 : (w.alloc (rqO who r t v a pr q o m)).cell? ⟨w.heap.size, 8, none⟩ = some (.int .i64 (mdI m)) := by simp
  have hv' : (v : Int) < 2 := by omega
  have HV : Hid (v < 2) := hv
  obtain ⟨ba, bc, hbv⟩ := hP.book hv
  have hlen := hM.len v hv
  clear hM hP
  go_enter Tryz.func84, Tryz.ntmps84
  go_upto_region 1 with fail
  generalize w.alloc (rqO who r t v a pr q o m) = W1 at *
  go_quiet (fail)
  have HB2 : Hid (Below w.heap.size w (W1.drewN nq)) := below_drewN HB1.out nq
  have HP2 : Hid (PM (W1.drewN nq) p vb M) := HP1.out.below (below_drewN (Below.refl _ _) nq)
  have y8 : (W1.drewN nq).cell? ⟨w.heap.size, 8, none⟩ = some (.int .i64 (mdI m)) := by simpa using x8
  clear x3 x8
  generalize W1.drewN nq = W2 at *
  have c1 := HP2.out.vo hv (k := 1) (by omega)
  have c0 := HP2.out.vo hv (k := 0) (by omega)
  have z0 := HP2.out.box.frozen (25 + v * 3)
  simp only [voF, Nat.add_zero] at c0 c1
  rw [hbv] at c1
  clear hbv
  by_cases h0 : 0 < (M.bk v).length
  · have HX : Hid (Mk.modeM M v m = (9, M)) := if_pos h0
    have h0' : (0 : Int) < ((M.bk v).length : Int) := by omega
    clear h0
    go_wp2_with fail
    go_ret
    exact ⟨by rw [HX.out]; rfl, by rw [HX.out]; exact HP2.out, Only.of_below HB2.out⟩
  · have HX : Hid (Mk.modeM M v m = (0, { M with md := upd M.md v m })) := if_neg h0
    have h0' : ¬ (0 : Int) < ((M.bk v).length : Int) := by omega
    clear h0
    go_wp2_with fail
    go_ret
    refine ⟨by rw [HX.out]; rfl, by rw [HX.out]; exact HP2.out.setMd HV.out m, ?_⟩
    exact (Only.of_below HB2.out).set (show PHas p vb p from .inl rfl) _

/-- what carryOut, Do of the program leave: a text, an error, the market -/
def PDoT (p : Nat) (vb : Nat → Value) (x : ByteArray × Int × Mk.Mkt) (w : World) (e : Ending) (w' : World) : Prop :=
  e = .returned (.tuple #[.string x.1, .int .i64 x.2.1]) ∧ ∃ vb', PM w' p vb' x.2.2 ∧ Only (PHas p vb) w w' ∧ ∀ k, PHas p vb' k → PHas p vb k ∨ w.heap.size ≤ k
theorem pdoT_of {p : Nat} {vb : Nat → Value} {x : Int × Mk.Mkt} {w w1 w2 : World} (hb : Below w.heap.size w w1) (hR : PM w2 p vb x.2) (ho : Only (PHas p vb) w1 w2) : PDoT p vb (⟨#[]⟩, x.1, x.2) w (.returned (.tuple #[.string ⟨#[]⟩, .int .i64 x.1])) w2 :=
  ⟨rfl, vb, hR, (Only.of_below hb).trans ho (fun _ _ h => h), fun _ h => .inl h⟩

set_option maxRecDepth 100000 in
set_option maxHeartbeats 2000000 in
theorem carry_pay (p : Nat) (vb : Nat → Value) (M : Mk.Mkt) (who : Nat) (r : Int) (vo a pr q o : Int) (m : Bool) (w : World) (hM : M.Fine) (hP : PM w p vb M) (hw : who < 4) (hn : 0 ≤ a ∧ a ≤ 9999) :
    Calls Tryz.prog 46 #[.pointer (some ⟨p, 0, none⟩), rqA who r ⟨#[112, 97, 121]⟩ vo a pr q o m] w fun e w' => PDoT p vb (⟨#[]⟩, (Mk.payM M who a).1, (Mk.payM M who a).2) w e w' := by
  have HM : Hid M.Fine := hM
  have HB1 : Hid (Below w.heap.size w (w.alloc (rqO who r ⟨#[112, 97, 121]⟩ vo a pr q o m))) := (Below.refl _ _).alloc (Nat.le_refl _) _
  have HP1 : Hid (PM (w.alloc (rqO who r ⟨#[112, 97, 121]⟩ vo a pr q o m)) p vb M) := hP.below HB1.out
  clear hM hP
  go_enter Tryz.func46, Tryz.ntmps46
  go_wp2_with fail
  refine (ppay_any p vb M who r ⟨#[112, 97, 121]⟩ vo a pr q o m _ HM.out HP1.out hw hn).mono ?_
  rintro e w2 ⟨rfl, hR2, ho⟩
  have HD : Hid (PDoT p vb (⟨#[]⟩, (Mk.payM M who a).1, (Mk.payM M who a).2) w (.returned (.tuple #[.string ⟨#[]⟩, .int .i64 (Mk.payM M who a).1])) w2) := pdoT_of HB1.out hR2 ho
  clear hR2 ho
  go_wp2_with fail
  refine bodyPost_ret (v := .tuple #[.string ⟨#[]⟩, .int .i64 (Mk.payM M who a).1]) ?_ rfl HD.out
  simp [results, Tryz.results46, go_sem]

set_option maxRecDepth 100000 in
set_option maxHeartbeats 2000000 in
theorem carry_draw (p : Nat) (vb : Nat → Value) (M : Mk.Mkt) (who : Nat) (r : Int) (vo a pr q o : Int) (m : Bool) (w : World) (hM : M.Fine) (hP : PM w p vb M) (hw : who < 4) (hn : 0 ≤ a ∧ a ≤ 9999) :
    Calls Tryz.prog 46 #[.pointer (some ⟨p, 0, none⟩), rqA who r ⟨#[100, 114, 97, 119]⟩ vo a pr q o m] w fun e w' => PDoT p vb (⟨#[]⟩, (Mk.drawM M who a).1, (Mk.drawM M who a).2) w e w' := by
  have HM : Hid M.Fine := hM
  have HB1 : Hid (Below w.heap.size w (w.alloc (rqO who r ⟨#[100, 114, 97, 119]⟩ vo a pr q o m))) := (Below.refl _ _).alloc (Nat.le_refl _) _
  have HP1 : Hid (PM (w.alloc (rqO who r ⟨#[100, 114, 97, 119]⟩ vo a pr q o m)) p vb M) := hP.below HB1.out
  clear hM hP
  go_enter Tryz.func46, Tryz.ntmps46
  go_wp2_with fail
  refine (pdraw_any p vb M who r ⟨#[100, 114, 97, 119]⟩ vo a pr q o m _ HM.out HP1.out hw hn).mono ?_
  rintro e w2 ⟨rfl, hR2, ho⟩
  have HD : Hid (PDoT p vb (⟨#[]⟩, (Mk.drawM M who a).1, (Mk.drawM M who a).2) w (.returned (.tuple #[.string ⟨#[]⟩, .int .i64 (Mk.drawM M who a).1])) w2) := pdoT_of HB1.out hR2 ho
  clear hR2 ho
  go_wp2_with fail
  refine bodyPost_ret (v := .tuple #[.string ⟨#[]⟩, .int .i64 (Mk.drawM M who a).1]) ?_ rfl HD.out
  simp [results, Tryz.results46, go_sem]

set_option maxRecDepth 100000 in
set_option maxHeartbeats 2000000 in
theorem carry_bring (p : Nat) (vb : Nat → Value) (M : Mk.Mkt) (who : Nat) (r : Int) (v : Nat) (a pr q o : Int) (m : Bool) (w : World) (hM : M.Fine) (hP : PM w p vb M) (hw : who < 4) (hv : v < 2) (hn : 0 ≤ a ∧ a ≤ 9999) :
    Calls Tryz.prog 46 #[.pointer (some ⟨p, 0, none⟩), rqA who r ⟨#[98, 114, 105, 110, 103]⟩ v a pr q o m] w fun e w' => PDoT p vb (⟨#[]⟩, (Mk.bringM M v who a).1, (Mk.bringM M v who a).2) w e w' := by
  have HM : Hid M.Fine := hM
  have HB1 : Hid (Below w.heap.size w (w.alloc (rqO who r ⟨#[98, 114, 105, 110, 103]⟩ v a pr q o m))) := (Below.refl _ _).alloc (Nat.le_refl _) _
  have HP1 : Hid (PM (w.alloc (rqO who r ⟨#[98, 114, 105, 110, 103]⟩ v a pr q o m)) p vb M) := hP.below HB1.out
  clear hM hP
  go_enter Tryz.func46, Tryz.ntmps46
  go_wp2_with fail
  refine (pbring_any p vb M who r ⟨#[98, 114, 105, 110, 103]⟩ v a pr q o m _ HM.out HP1.out hw hv hn).mono ?_
  rintro e w2 ⟨rfl, hR2, ho⟩
  have HD : Hid (PDoT p vb (⟨#[]⟩, (Mk.bringM M v who a).1, (Mk.bringM M v who a).2) w (.returned (.tuple #[.string ⟨#[]⟩, .int .i64 (Mk.bringM M v who a).1])) w2) := pdoT_of HB1.out hR2 ho
  clear hR2 ho
  go_wp2_with fail
  refine bodyPost_ret (v := .tuple #[.string ⟨#[]⟩, .int .i64 (Mk.bringM M v who a).1]) ?_ rfl HD.out
  simp [results, Tryz.results46, go_sem]

set_option maxRecDepth 100000 in
set_option maxHeartbeats 2000000 in
theorem carry_fetch (p : Nat) (vb : Nat → Value) (M : Mk.Mkt) (who : Nat) (r : Int) (v : Nat) (a pr q o : Int) (m : Bool) (w : World) (hM : M.Fine) (hP : PM w p vb M) (hw : who < 4) (hv : v < 2) (hn : 0 ≤ a ∧ a ≤ 9999) :
    Calls Tryz.prog 46 #[.pointer (some ⟨p, 0, none⟩), rqA who r ⟨#[102, 101, 116, 99, 104]⟩ v a pr q o m] w fun e w' => PDoT p vb (⟨#[]⟩, (Mk.fetchM M v who a).1, (Mk.fetchM M v who a).2) w e w' := by
  have HM : Hid M.Fine := hM
  have HB1 : Hid (Below w.heap.size w (w.alloc (rqO who r ⟨#[102, 101, 116, 99, 104]⟩ v a pr q o m))) := (Below.refl _ _).alloc (Nat.le_refl _) _
  have HP1 : Hid (PM (w.alloc (rqO who r ⟨#[102, 101, 116, 99, 104]⟩ v a pr q o m)) p vb M) := hP.below HB1.out
  clear hM hP
  go_enter Tryz.func46, Tryz.ntmps46
  go_wp2_with fail
  refine (pfetch_any p vb M who r ⟨#[102, 101, 116, 99, 104]⟩ v a pr q o m _ HM.out HP1.out hw hv hn).mono ?_
  rintro e w2 ⟨rfl, hR2, ho⟩
  have HD : Hid (PDoT p vb (⟨#[]⟩, (Mk.fetchM M v who a).1, (Mk.fetchM M v who a).2) w (.returned (.tuple #[.string ⟨#[]⟩, .int .i64 (Mk.fetchM M v who a).1])) w2) := pdoT_of HB1.out hR2 ho
  clear hR2 ho
  go_wp2_with fail
  refine bodyPost_ret (v := .tuple #[.string ⟨#[]⟩, .int .i64 (Mk.fetchM M v who a).1]) ?_ rfl HD.out
  simp [results, Tryz.results46, go_sem]

set_option maxRecDepth 100000 in
set_option maxHeartbeats 2000000 in
theorem carry_mode (p : Nat) (vb : Nat → Value) (M : Mk.Mkt) (who : Nat) (r : Int) (v : Nat) (a pr q o : Int) (m : Bool) (w : World) (hM : M.Fine) (hP : PM w p vb M) (hv : v < 2) :
    Calls Tryz.prog 46 #[.pointer (some ⟨p, 0, none⟩), rqA who r ⟨#[109, 111, 100, 101]⟩ v a pr q o m] w fun e w' => PDoT p vb (⟨#[]⟩, (Mk.modeM M v m).1, (Mk.modeM M v m).2) w e w' := by
  have HM : Hid M.Fine := hM
  have HB1 : Hid (Below w.heap.size w (w.alloc (rqO who r ⟨#[109, 111, 100, 101]⟩ v a pr q o m))) := (Below.refl _ _).alloc (Nat.le_refl _) _
  have HP1 : Hid (PM (w.alloc (rqO who r ⟨#[109, 111, 100, 101]⟩ v a pr q o m)) p vb M) := hP.below HB1.out
  clear hM hP
  go_enter Tryz.func46, Tryz.ntmps46
  go_wp2_with fail
  refine (psetMode_any p vb M who r ⟨#[109, 111, 100, 101]⟩ v a pr q o m _ HM.out HP1.out hv).mono ?_
  rintro e w2 ⟨rfl, hR2, ho⟩
  have HD : Hid (PDoT p vb (⟨#[]⟩, (Mk.modeM M v m).1, (Mk.modeM M v m).2) w (.returned (.tuple #[.string ⟨#[]⟩, .int .i64 (Mk.modeM M v m).1])) w2) := pdoT_of HB1.out hR2 ho
  clear hR2 ho
  go_wp2_with fail
  refine bodyPost_ret (v := .tuple #[.string ⟨#[]⟩, .int .i64 (Mk.modeM M v m).1]) ?_ rfl HD.out
  simp [results, Tryz.results46, go_sem]

end Go.Proofs.YtljeahgpkeohlaaGreatDoor

namespace Go.Proofs.YtljeahgpkeohlaaGreatDoor
open Go.RowKit

theorem pdoT_same {p : Nat} {vb : Nat → Value} {M : Mk.Mkt} {w w' : World} {t : ByteArray} {e : Int} (hP : PM w p vb M) (hb : Below w.heap.size w w') : PDoT p vb (t, e, M) w (.returned (.tuple #[.string t, .int .i64 e])) w' :=
  ⟨rfl, vb, hP.below hb, Only.of_below hb, fun _ h => .inl h⟩

set_option maxRecDepth 100000 in
set_option maxHeartbeats 4000000 in
theorem pdo_any2 (p : Nat) (vb : Nat → Value) (M : Mk.Mkt) (s : ByteArray) (w : World) (X : Mk.Cmd → ByteArray × Int × Mk.Mkt) (hls : ∀ c, c < 4 → 0 ≤ M.ls c ∧ M.ls c ≤ 99) (hP : PM w p vb M)
    (hX : ∀ c, Mk.readP s = some c → (c.r : Int) = M.ls c.who + 1 → ∀ W, Below w.heap.size w W → PM W p vb M → Calls Tryz.prog 46 #[.pointer (some ⟨p, 0, none⟩), reqV c] W fun e w' => PDoT p vb (X c) W e w') :
    Calls Tryz.prog 27 #[.pointer (some ⟨p, 0, none⟩), .string s] w fun e w' => PDoT p vb (Mk.doM X M s) w e w' := by
  have HP : Hid (PM w p vb M) := hP
  have HX : Hid (∀ c, Mk.readP s = some c → (c.r : Int) = M.ls c.who + 1 → ∀ W, Below w.heap.size w W → PM W p vb M → Calls Tryz.prog 46 #[.pointer (some ⟨p, 0, none⟩), reqV c] W fun e w' => PDoT p vb (X c) W e w') := hX
  clear hX hP
  go_enter Tryz.func27, Tryz.ntmps27
  go_wp2_with fail
  refine (readRequest_any s w).mono ?_
  rintro e w1 ⟨hb1, hm⟩
  have HB1 : Hid (Below w.heap.size w w1) := hb1
  cases hrd : Mk.readP s with
  | none =>
    rw [hrd] at hm
    obtain rfl := hm
    have HD : Hid (Mk.doM X M s = (⟨#[]⟩, 2, M)) := (by unfold Mk.doM; rw [hrd] : Mk.doM X M s = (⟨#[]⟩, 2, M))
    clear hrd hb1
    go_wp2_with fail
    rw [HD.out]
    refine bodyPost_ret (v := .tuple #[.string ⟨#[]⟩, .int .i64 2]) ?_ rfl (pdoT_same HP.out ?_)
    · simp [results, Tryz.results27, go_sem]
    · exact HB1.out.alloc HB1.out.size _
  | some c =>
    rw [hrd] at hm
    obtain rfl := hm
    obtain ⟨hok, _⟩ := Mk.read_ok hrd
    have HC : Hid (Mk.readP s = some c) := hrd
    have hwho : c.who < 4 := hok.who
    have hr1 : 1 ≤ c.r ∧ c.r ≤ 99 := hok.r
    have hw' : (c.who : Int) < 4 := by omega
    have bl := hls c.who hwho
    have hq := HX.out c hrd
    have hD := (show Mk.doM X M s = (if (c.r : Int) = M.ls c.who then (M.tx c.who, M.er c.who, M)
      else if (c.r : Int) < M.ls c.who then (⟨#[]⟩, 3, M)
      else if M.ls c.who + 1 < (c.r : Int) then (⟨#[]⟩, 4, M)
      else ((X c).1, (X c).2.1, { (X c).2.2 with ls := upd (X c).2.2.ls c.who c.r, tx := upd (X c).2.2.tx c.who (X c).1, er := upd (X c).2.2.er c.who (X c).2.1, disk := (X c).2.2.disk ++ Mk.frame s ++ s })) from by unfold Mk.doM; rw [hrd])
    have HD := (show Hid _ from hD)
    have HQ := (show Hid _ from hq)
    clear hq hD hrd hok HX hb1
    have HB2 : Hid (Below w.heap.size w (w1.alloc (rqO c.who c.r c.d.text c.voy c.amt c.pri c.qty c.ord c.mc))) := HB1.out.alloc HB1.out.size _
    have HP2 : Hid (PM (w1.alloc (rqO c.who c.r c.d.text c.voy c.amt c.pri c.qty c.ord c.mc)) p vb M) := HP.out.below HB2.out
    have HC2 : Hid (∀ i u, (#[.int .i64 (c.who : Int), .int .i64 (c.r : Int), .string c.d.text, .int .i64 (c.voy : Int), .int .i64 (c.amt : Int), .int .i64 (c.pri : Int), .int .i64 (c.qty : Int), .int .i64 (c.ord : Int), .int .i64 (mdI c.mc)] : Array Value)[i]? = some u → (w1.alloc (rqO c.who c.r c.d.text c.voy c.amt c.pri c.qty c.ord c.mc)).cell? ⟨w1.heap.size, i, none⟩ = some u) := fun i u h => by simpa using h
    have hl2 : w1.heap.size < (w1.alloc (rqO c.who c.r c.d.text c.voy c.amt c.pri c.qty c.ord c.mc)).heap.size := by simp
    have hBw : w.heap.size ≤ w1.heap.size := HB1.out.size
    go_upto_region 4 with fail
    generalize w1.alloc (rqO c.who c.r c.d.text c.voy c.amt c.pri c.qty c.ord c.mc) = W2 at *
    generalize w1.heap.size = B at *
    have x0 := HC2.out 0 _ rfl
    have f0 := HP2.out.re hwho (k := 0) (by omega)
    have f1 := HP2.out.re hwho (k := 1) (by omega)
    have f2 := HP2.out.re hwho (k := 2) (by omega)
    simp only [reF, Nat.add_zero] at f0 f1 f2
    have hpl := HP2.out.box.lt
    go_region
    have hb3 : Below W2.heap.size W2 ((W2.alloc (.cells #[.int .i64 (M.ls c.who), .string (M.tx c.who), .int .i64 (M.er c.who)] 69)).drew) := ((Below.refl _ _).alloc (Nat.le_refl _) _).drew
    have HB3 : Hid (Below w.heap.size w ((W2.alloc (.cells #[.int .i64 (M.ls c.who), .string (M.tx c.who), .int .i64 (M.er c.who)] 69)).drew)) := HB2.out.trans (hb3.mono HB2.out.size)
    have HP3 : Hid (PM ((W2.alloc (.cells #[.int .i64 (M.ls c.who), .string (M.tx c.who), .int .i64 (M.er c.who)] 69)).drew) p vb M) := HP2.out.below hb3
    have HC3 : Hid (∀ i u, (#[.int .i64 (c.who : Int), .int .i64 (c.r : Int), .string c.d.text, .int .i64 (c.voy : Int), .int .i64 (c.amt : Int), .int .i64 (c.pri : Int), .int .i64 (c.qty : Int), .int .i64 (c.ord : Int), .int .i64 (mdI c.mc)] : Array Value)[i]? = some u → ((W2.alloc (.cells #[.int .i64 (M.ls c.who), .string (M.tx c.who), .int .i64 (M.er c.who)] 69)).drew).cell? ⟨B, i, none⟩ = some u) := fun i u h => (hb3.cell (p := ⟨B, i, none⟩) hl2).trans (HC2.out i u h)
    have l0 : ((W2.alloc (.cells #[.int .i64 (M.ls c.who), .string (M.tx c.who), .int .i64 (M.er c.who)] 69)).drew).cell? ⟨W2.heap.size, 0, none⟩ = some (.int .i64 (M.ls c.who)) := by simp
    have l1 : ((W2.alloc (.cells #[.int .i64 (M.ls c.who), .string (M.tx c.who), .int .i64 (M.er c.who)] 69)).drew).cell? ⟨W2.heap.size, 1, none⟩ = some (.string (M.tx c.who)) := by simp
    have l2 : ((W2.alloc (.cells #[.int .i64 (M.ls c.who), .string (M.tx c.who), .int .i64 (M.er c.who)] 69)).drew).cell? ⟨W2.heap.size, 2, none⟩ = some (.int .i64 (M.er c.who)) := by simp
    have HwB : Hid (B < ((W2.alloc (.cells #[.int .i64 (M.ls c.who), .string (M.tx c.who), .int .i64 (M.er c.who)] 69)).drew).heap.size) := Nat.lt_of_lt_of_le hl2 hb3.size
    clear hb3 f0 f1 f2 x0 hpl HC2 hl2
    generalize (W2.alloc (.cells #[.int .i64 (M.ls c.who), .string (M.tx c.who), .int .i64 (M.er c.who)] 69)).drew = W3 at *
    generalize W2.heap.size = L at *
    have x1 := HC3.out 1 _ rfl
    by_cases h1 : (c.r : Int) = M.ls c.who
    · have HE : Hid (Mk.doM X M s = (M.tx c.who, M.er c.who, M)) := HD.out.trans (if_pos h1)
      have h1' : ((c.r : Int) == M.ls c.who) = true := by rw [beq_iff_eq]; exact h1
      clear h1
      go_wp2_with fail
      go_quiet (fail)
      have HB4 : Hid (Below w.heap.size w (W3.drewN nq)) := below_drewN HB3.out nq
      generalize W3.drewN nq = W4 at *
      go_wp2_with fail
      rw [HE.out]
      refine bodyPost_ret (v := .tuple #[.string (M.tx c.who), .int .i64 (M.er c.who)]) ?_ rfl (pdoT_same HP.out HB4.out)
      simp [results, Tryz.results27, go_sem]
    · have h1' : ((c.r : Int) == M.ls c.who) = false := by rw [beq_eq_false_iff_ne]; exact h1
      by_cases h2 : (c.r : Int) < M.ls c.who
      · have HE : Hid (Mk.doM X M s = (⟨#[]⟩, 3, M)) := HD.out.trans ((if_neg h1).trans (if_pos h2))
        clear h1
        go_wp2_with fail
        rw [HE.out]
        refine bodyPost_ret (v := .tuple #[.string ⟨#[]⟩, .int .i64 3]) ?_ rfl (pdoT_same HP.out HB3.out)
        simp [results, Tryz.results27, go_sem]
      · by_cases h3 : M.ls c.who + 1 < (c.r : Int)
        · have HE : Hid (Mk.doM X M s = (⟨#[]⟩, 4, M)) := HD.out.trans ((if_neg h1).trans ((if_neg h2).trans (if_pos h3)))
          clear h1
          go_wp2_with fail
          rw [HE.out]
          refine bodyPost_ret (v := .tuple #[.string ⟨#[]⟩, .int .i64 4]) ?_ rfl (pdoT_same HP.out HB3.out)
          simp [results, Tryz.results27, go_sem]
        · have hnext : (c.r : Int) = M.ls c.who + 1 := by omega
          have hq := HQ.out hnext
          have hE := HD.out.trans ((if_neg h1).trans ((if_neg h2).trans (if_neg h3)))
          clear h1 hnext HQ HD
          generalize X c = x at *
          obtain ⟨t, er, M'⟩ := x
          have HQ : Hid (∀ W, Below w.heap.size w W → PM W p vb M → Calls Tryz.prog 46 #[.pointer (some ⟨p, 0, none⟩), reqV c] W fun e w' => PDoT p vb (t, er, M') W e w') := hq
          have HE : Hid (Mk.doM X M s = (t, er, { M' with ls := upd M'.ls c.who c.r, tx := upd M'.tx c.who t, er := upd M'.er c.who er, disk := M'.disk ++ Mk.frame s ++ s })) := hE
          clear hq hE
          have x0 := HC3.out 0 _ rfl
          have x2 := HC3.out 2 _ rfl
          have x3 := HC3.out 3 _ rfl
          have x4 := HC3.out 4 _ rfl
          have x5 := HC3.out 5 _ rfl
          have x6 := HC3.out 6 _ rfl
          have x7 := HC3.out 7 _ rfl
          have x8 := HC3.out 8 _ rfl
          go_wp2_with fail
          refine (HQ.out W3 HB3.out HP3.out).mono ?_
          rintro e W5 ⟨rfl, vb', hP5, ho5, hnew⟩
          have nB0 : ¬ PHas p vb B := fun h => by have := HP.out.lt h; omega
          have HP5 : Hid (PM W5 p vb' M') := hP5
          have HO5 : Hid (Only (PHas p vb) W3 W5) := ho5
          have HNew : Hid (∀ k, PHas p vb' k → PHas p vb k ∨ W3.heap.size ≤ k) := hnew
          have y0 : W5.cell? ⟨B, 0, none⟩ = some (.int .i64 (c.who : Int)) := (ho5.cell HwB.out nB0).trans x0
          have y1 : W5.cell? ⟨B, 1, none⟩ = some (.int .i64 (c.r : Int)) := (ho5.cell HwB.out nB0).trans x1
          have f0 := hP5.re hwho (k := 0) (by omega)
          have f1 := hP5.re hwho (k := 1) (by omega)
          have f2 := hP5.re hwho (k := 2) (by omega)
          simp only [reF, Nat.add_zero] at f0 f1 f2
          have z0 := hP5.box.frozen (31 + c.who * 3)
          have z1 := hP5.box.frozen (31 + c.who * 3 + 1)
          have z2 := hP5.box.frozen (31 + c.who * 3 + 2)
          clear hP5 ho5 hnew nB0 x0 x1 x2 x3 x4 x5 x6 x7 x8 l0 l1 l2
          go_upto_region 12 with fail
          go_region
          have HP6 := (show Hid _ from (HP5.out.setRe hwho (c.r : Int) t er (M'.disk ++ Mk.frame s ++ s)).below (Below.refl _ _).drew)
          have HO6 : Hid (Only (PHas p vb) W3 ((((W5.setCell ⟨p, 31 + c.who * 3, none⟩ (.int .i64 (c.r : Int))).setCell ⟨p, 31 + c.who * 3 + 1, none⟩ (.string t)).setCell ⟨p, 31 + c.who * 3 + 2, none⟩ (.int .i64 er)).drew)) := (((HO5.out.set (show PHas p vb p from .inl rfl) _).set (show PHas p vb p from .inl rfl) _).set (show PHas p vb p from .inl rfl) _).next (Below.refl _ _).drew
          go_wp2_with fail
          rw [HE.out]
          refine bodyPost_ret (v := .tuple #[.string t, .int .i64 er]) ?_ rfl ⟨rfl, vb', HP6.out, (Only.of_below HB3.out).trans HO6.out (fun _ _ h => h), fun k hk => ?_⟩
          · simp [results, Tryz.results27, go_sem]
          · rcases HNew.out k hk with h | h
            · exact .inl h
            · exact .inr (Nat.le_trans HB3.out.size h)
theorem pdo_any (p : Nat) (vb : Nat → Value) (M : Mk.Mkt) (s : ByteArray) (w : World) (X : Mk.Cmd → ByteArray × Int × Mk.Mkt) (hls : ∀ c, c < 4 → 0 ≤ M.ls c ∧ M.ls c ≤ 99) (hP : PM w p vb M)
    (hX : ∀ c, Mk.readP s = some c → (c.r : Int) = M.ls c.who + 1 → ∀ W, PM W p vb M → Calls Tryz.prog 46 #[.pointer (some ⟨p, 0, none⟩), reqV c] W fun e w' => PDoT p vb (X c) W e w') :
    Calls Tryz.prog 27 #[.pointer (some ⟨p, 0, none⟩), .string s] w fun e w' => PDoT p vb (Mk.doM X M s) w e w' :=
  pdo_any2 p vb M s w X hls hP (fun c hc h W _ => hX c hc h W)

end Go.Proofs.YtljeahgpkeohlaaGreatDoor
