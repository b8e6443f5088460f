import Derived.Test.YtmebcdpdpcpnmaaGreatDoorJ22
import Derived.Deep.MidRow
import Derived.Deep.RegionWith
namespace Go.Proofs.YtmebcdpdpcpnmaaGreatDoor
open Go.RowKit

/-- the accounts, as a value -/
def acsL (M : Mk.Mkt) : List Value := (List.range 24).map (fun j => acF M (j / 6) (j % 6))
abbrev acV (M : Mk.Mkt) (k : Nat) : Value := .agg #[.int .i64 (M.cf k), .int .i64 (M.ch k), .int .i64 (M.sf 0 k), .int .i64 (M.sh 0 k), .int .i64 (M.sf 1 k), .int .i64 (M.sh 1 k)]
theorem Tryz.infoAcs : (Tryz.prog.info? 62).map (·.size) = some 24 := by kernel_rfl
theorem idx_acs (M : Mk.Mkt) (k : Nat) (hk : k < 4) (W : World) : (Instr.index 62 (.agg (acsL M).toArray) (.int .i64 (k : Int))).run Tryz.prog W = .ok (acV M k) W := by
  rcases (show k = 0 ∨ k = 1 ∨ k = 2 ∨ k = 3 by omega) with rfl | rfl | rfl | rfl
  all_goals
    simp [Instr.index, run_underlying Tryz.underlying62, asIntOf, Tryz.sizeOf61, go_sem]
    rfl
/-- the accounts, read whole -/
theorem acs_at {w : World} {p : Nat} {vb : Nat → Value} {M : Mk.Mkt} (hP : PM w p vb M) : w.rangeAt p 0 (acsL M) := by
  intro j v hv
  have hj : j < 24 := by
    refine Nat.lt_of_not_le (fun h => ?_)
    rw [List.getElem?_eq_none (by simp [acsL]; exact h)] at hv
    cases hv
  have : v = acF M (j / 6) (j % 6) := by
    simp [acsL, List.getElem?_range hj] at hv
    exact hv.symm
  subst this
  rw [Nat.zero_add]
  have h := hP.ac (c := j / 6) (k := j % 6) (by omega) (by omega)
  rw [show j / 6 * 6 + j % 6 = j by omega] at h
  exact h

set_option maxRecDepth 100000 in
set_option maxHeartbeats 2000000 in
theorem allCash_any (p : Nat) (vb : Nat → Value) (M : Mk.Mkt) (w : World) (hM : M.Fine) (hP : PM w p vb M) :
    Calls Tryz.prog 113 #[.pointer (some ⟨p, 0, none⟩)] w fun e w' => e = .returned (.int .i64 (totTo M.cf M.ch 4 + M.house)) ∧ Below w.heap.size w w' := by
  have qh := hP.ho
  have HR : Hid (w.rangeAt p 0 (acsL M)) := acs_at hP
  have HIX : Hid (∀ k, k < 4 → ∀ W, (Instr.index 62 (.agg (acsL M).toArray) (.int .i64 ((k : Nat) : Int))).run Tryz.prog W = .ok (acV M k) W) := fun k hk W => idx_acs M k hk W
  have HBd : Hid (∀ c, c < 4 → 0 ≤ M.cf c ∧ M.cf c ≤ 9999 ∧ 0 ≤ M.ch c ∧ M.ch c ≤ 9999) := fun c hc => ⟨(hM.cf c hc).1, (hM.cf c hc).2, (hM.ch c hc).1, (hM.ch c hc).2⟩
  have hb := hM.house
  clear hP hM
  go_enter Tryz.func113, Tryz.ntmps113
  go_upto_region 2 with fail
  iterate 10 go_step
  refine wpList_load_mid rfl 62 _ rfl p 0 rfl (acsL M) _ HR.out Tryz.underlying62 rfl (by rw [Tryz.infoAcs]; simp [acsL]) ?_
  generalize (Value.agg (acsL M).toArray) = A at *
  go_wp2
  go_loopw [3, 14] (fun n i wr => ∃ k : Nat, k ≤ 4 ∧ i = .int .i64 k ∧ n = .int .i64 (totTo M.cf M.ch k + M.house) ∧ Below w.heap.size w wr) (fun _ i _ => 4 - (intOf i).toNat)
  case atStart => exact ⟨0, by omega, rfl, by simp [totTo], Below.refl _ _⟩
  case round =>
    obtain ⟨k, hk, rfl, rfl, hb1⟩ := hrel
    have HB1 : Hid (Below w.heap.size w wr) := hb1
    clear hb1
    have tb := totTo_bd HBd.out k hk
    by_cases hlt : k < 4
    · have pb := HBd.out k hlt
      have hlt' : (k : Int) < 4 := by omega
      have HE : Hid (totTo M.cf M.ch (k + 1) = totTo M.cf M.ch k + M.cf k + M.ch k) := rfl
      have HAl : Hid (∀ ob, Below w.heap.size w (wr.alloc ob)) := fun ob => HB1.out.alloc HB1.out.size ob
      have hix := HIX.out k hlt
      go_wp2
      go_roundw
      case rel => exact ⟨k + 1, by omega, by go_num, by rw [HE.out]; go_num, HAl.out _⟩
      case measure => simp [intOf]; omega
    · obtain rfl : k = 4 := by omega
      go_wp2
      go_ret
      exact ⟨rfl, HB1.out⟩

set_option maxRecDepth 100000 in
set_option maxHeartbeats 2000000 in
theorem allSlots_any (p : Nat) (vb : Nat → Value) (M : Mk.Mkt) (v : Nat) (w : World) (hv : v < 2) (hM : M.Fine) (hP : PM w p vb M) :
    Calls Tryz.prog 115 #[.pointer (some ⟨p, 0, none⟩), .int .i64 v] w fun e w' => e = .returned (.int .i64 (totTo (M.sf v) (M.sh v) 4)) ∧ Below w.heap.size w w' := by
  have HR : Hid (w.rangeAt p 0 (acsL M)) := acs_at hP
  have HIX : Hid (∀ k, k < 4 → ∀ W, (Instr.index 62 (.agg (acsL M).toArray) (.int .i64 ((k : Nat) : Int))).run Tryz.prog W = .ok (acV M k) W) := fun k hk W => idx_acs M k hk W
  have HBd : Hid (∀ c, c < 4 → 0 ≤ M.sf v c ∧ M.sf v c ≤ 9999 ∧ 0 ≤ M.sh v c ∧ M.sh v c ≤ 9999) := fun c hc => ⟨(hM.sf v c hv hc).1, (hM.sf v c hv hc).2, (hM.sh v c hv hc).1, (hM.sh v c hv hc).2⟩
  clear hP hM
  generalize hf : M.sf v = f at *
  generalize hg : M.sh v = g at *
  have HV : Hid (v = 0 ∧ M.sf 0 = f ∧ M.sh 0 = g ∨ v = 1 ∧ M.sf 1 = f ∧ M.sh 1 = g) := (by
    rcases (show v = 0 ∨ v = 1 by omega) with rfl | rfl
    · exact .inl ⟨rfl, hf, hg⟩
    · exact .inr ⟨rfl, hf, hg⟩ : v = 0 ∧ M.sf 0 = f ∧ M.sh 0 = g ∨ v = 1 ∧ M.sf 1 = f ∧ M.sh 1 = g)
  clear hf hg
  have hV := HV.out
  clear HV hv
  rcases hV with ⟨rfl, e1, e2⟩ | ⟨rfl, e1, e2⟩
  all_goals
    have HV := (show Hid _ from And.intro e1 e2)
    clear e1 e2
    go_enter Tryz.func115, Tryz.ntmps115
    go_upto_region 2 with fail
    iterate 10 go_step
    refine wpList_load_mid rfl 62 _ rfl p 0 rfl (acsL M) _ HR.out Tryz.underlying62 rfl (by rw [Tryz.infoAcs]; simp [acsL]) ?_
    generalize (Value.agg (acsL M).toArray) = A at *
    go_wp2
    go_loopw [5, 12] (fun n i wr => ∃ k : Nat, k ≤ 4 ∧ i = .int .i64 k ∧ n = .int .i64 (totTo f g k) ∧ Below w.heap.size w wr) (fun _ i _ => 4 - (intOf i).toNat)
    case atStart => exact ⟨0, by omega, rfl, by simp [totTo], Below.refl _ _⟩
    case round =>
      obtain ⟨k, hk, rfl, rfl, hb1⟩ := hrel
      have HB1 : Hid (Below w.heap.size w wr) := hb1
      clear hb1
      have tb := totTo_bd HBd.out k hk
      by_cases hlt : k < 4
      · have pb := HBd.out k hlt
        have hlt' : (k : Int) < 4 := by omega
        have HE : Hid (totTo f g (k + 1) = totTo f g k + f k + g k) := rfl
        have HAl : Hid (∀ ob n, Below w.heap.size w ((wr.alloc ob).drewN n)) := fun ob n => below_drewN (HB1.out.alloc HB1.out.size ob) n
        have hix := HIX.out k hlt
        have E1 : Hid _ := congrFun HV.out.1 k
        have E2 : Hid _ := congrFun HV.out.2 k
        rw [← E1.out, ← E2.out] at pb
        go_wp2
        go_quiet (fail)
        go_wp2
        go_roundw
        case rel => exact ⟨k + 1, by omega, by go_num, by rw [HE.out, ← E1.out, ← E2.out]; go_num, HAl.out _ _⟩
        case measure => simp [intOf]; omega
      · obtain rfl : k = 4 := by omega
        go_wp2
        go_ret
        exact ⟨rfl, HB1.out⟩

end Go.Proofs.YtmebcdpdpcpnmaaGreatDoor

namespace Go

/-- A REGION THAT DRAWS, WHOSE OWN OPERATIONS ONLY READ, and whose callees may lay new blocks: one walk, in the worlds of a class -/
theorem wp_region_calls {P : Program} {S : World → Prop} {id : Nat} {Q : Exit → Act → World → Prop} {a : Act} {w : World} {l : List Oper} (hm : P.follows .mixedOrders = true) (hB : Region.lexB .any l.toArray = true) (hC : S { w with drawn := w.drawn + 1 })
    (h : wpQuiet P l.toArray (fun w' => ∃ u : Wof S, w' = u.val) (fun a' => ∀ w', (∃ u : Wof S, w' = u.val) → Q .normal a' w') l a) : (Code.region id l.toArray true).wp P Q a w :=
  wp_region_quiet (C := fun w' => ∃ u : Wof S, w' = u.val) hm hB ⟨⟨_, hC⟩, rfl⟩ (by simpa using h)

end Go
namespace Go.Proofs.YtmebcdpdpcpnmaaGreatDoor
open Go.RowKit

set_option maxRecDepth 100000 in
set_option maxHeartbeats 1000000 in
theorem take_yes (p i : Nat) (f n : Int) (w : World) (hc : w.cell? ⟨p, i, none⟩ = some (.int .i64 f)) (hz : w.frozen? ⟨p, i, none⟩ = false) (hf : 0 ≤ f ∧ f ≤ 9999) (hn : 0 ≤ n ∧ n ≤ 9999) (h : n ≤ f) :
    Calls Tryz.prog 114 #[.pointer (some ⟨p, i, none⟩), .int .i64 n] w fun e w' => e = .returned (.int .i64 0) ∧ w' = w.setCell ⟨p, i, none⟩ (.int .i64 (f - n)) := by
  have h' : ¬ f < n := by omega
  clear h
  go_enter Tryz.func114, Tryz.ntmps114
  go_wp2
  go_ret
  exact ⟨rfl, rfl⟩
set_option maxRecDepth 100000 in
set_option maxHeartbeats 1000000 in
theorem take_no (p i : Nat) (f n : Int) (w : World) (hc : w.cell? ⟨p, i, none⟩ = some (.int .i64 f)) (h : f < n) :
    Calls Tryz.prog 114 #[.pointer (some ⟨p, i, none⟩), .int .i64 n] w fun e w' => e = .returned (.int .i64 5) ∧ w' = w := by
  go_enter Tryz.func114, Tryz.ntmps114
  go_wp2
  go_ret
  exact ⟨rfl, rfl⟩

/-- what a method of the program's market leaves -/
def PDoes (p : Nat) (vb : Nat → Value) (x : Int × Mk.Mkt) (w : World) (e : Ending) (w' : World) : Prop := e = .returned (.int .i64 x.1) ∧ PM w' p vb x.2 ∧ Only (PHas p vb) w w'
/-- a request, with its numbers -/
abbrev rqA (who r : Int) (t : ByteArray) (v a p q o : Int) (m : Bool) : Value := .agg #[.int .i64 who, .int .i64 r, .string t, .int .i64 v, .int .i64 a, .int .i64 p, .int .i64 q, .int .i64 o, .int .i64 (mdI m)]
abbrev rqO (who r : Int) (t : ByteArray) (v a p q o : Int) (m : Bool) : Obj := .cells #[.int .i64 who, .int .i64 r, .string t, .int .i64 v, .int .i64 a, .int .i64 p, .int .i64 q, .int .i64 o, .int .i64 (mdI m)] 105

set_option maxRecDepth 100000 in
set_option maxHeartbeats 2000000 in
theorem ppay_any (p : Nat) (vb : Nat → Value) (M : Mk.Mkt) (who : Nat) (r : Int) (t : ByteArray) (vo a pr q o : Int) (m : Bool) (w : World) (hM : M.Fine) (hP : PM w p vb M) (hw : who < 4) (hn : 0 ≤ a ∧ a ≤ 9999) :
    Calls Tryz.prog 100 #[.pointer (some ⟨p, 0, none⟩), rqA who r t vo a pr q o m] w fun e w' => PDoes p vb (Mk.payM M who a) w e w' := by
  have HM : Hid M.Fine := hM
  have HB1 : Hid (Below w.heap.size w (w.alloc (rqO who r t vo a pr q o m))) := (Below.refl _ _).alloc (Nat.le_refl _) _
  have HP1 : Hid (PM (w.alloc (rqO who r t vo a pr q o m)) p vb M) := hP.below HB1.out
  have x0 : (w.alloc (rqO who r t vo a pr q o m)).cell? ⟨w.heap.size, 0, none⟩ = some (.int .i64 (who : Int)) := by simp
  have x4 : (w.alloc (rqO who r t vo a pr q o m)).cell? ⟨w.heap.size, 4, none⟩ = some (.int .i64 a) := by simp
  have hsz : w.heap.size < (w.alloc (rqO who r t vo a pr q o m)).heap.size := by simp
  have hw' : (who : Int) < 4 := by omega
  have HBd : Hid (∀ c, c < 4 → 0 ≤ M.cf c ∧ M.cf c ≤ 9999 ∧ 0 ≤ M.ch c ∧ M.ch c ≤ 9999) := fun c hc => ⟨(hM.cf c hc).1, (hM.cf c hc).2, (hM.ch c hc).1, (hM.ch c hc).2⟩
  have tb := totTo_bd HBd.out 4 (by omega)
  have hb := hM.house
  clear hM hP
  go_enter Tryz.func100, Tryz.ntmps100
  go_upto_region 1 with fail
  generalize w.alloc (rqO who r t vo a pr q o m) = W1 at *
  have hwr : IntKind.i64.wrap (totTo M.cf M.ch 4 + M.house + a) = totTo M.cf M.ch 4 + M.house + a := IntWalk.i64_in _ (by omega)
  have c4 : ∀ u : Wof (Below W1.heap.size W1), u.val.cell? ⟨w.heap.size, 4, none⟩ = some (.int .i64 a) := fun u => (u.ok.cell (p := ⟨w.heap.size, 4, none⟩) hsz).trans x4
  have hne : Nonempty (Wof (Below W1.heap.size W1)) := ⟨⟨W1, Below.refl _ _⟩⟩
  refine wp_region_calls (S := Below W1.heap.size W1) (by kernel_rfl) (by kernel_rfl) (Below.refl _ _).drew ?_
  repeat (quiet_step ((rename_i u; refine (allCash_any p vb M _ HM.out (HP1.out.below u.ok)).mono ?_; rintro e w3 ⟨rfl, hb3⟩; exact ⟨rfl, ⟨w3, u.ok.trans (hb3.mono u.ok.size)⟩, rfl⟩)))
  refine wpQuiet_nil ?_
  rintro _ ⟨u, rfl⟩
  have HB2 : Hid (Below w.heap.size w u.val) := HB1.out.trans (u.ok.mono HB1.out.size)
  have HP2 : Hid (PM u.val p vb M) := HP1.out.below u.ok
  have y0 : u.val.cell? ⟨w.heap.size, 0, none⟩ = some (.int .i64 (who : Int)) := (u.ok.cell (p := ⟨w.heap.size, 0, none⟩) hsz).trans x0
  have y4 : u.val.cell? ⟨w.heap.size, 4, none⟩ = some (.int .i64 a) := c4 u
  clear c4 x0 x4 hne
  generalize u.val = W2 at *
  have f0 := HP2.out.ac hw (k := 0) (by omega)
  have z0 := HP2.out.box.frozen (who * 6)
  simp only [acF, Nat.add_zero] at f0
  have bf := HM.out.cf who hw
  have HW : Hid (who < 4) := hw
  by_cases hbig : 9999 < totTo M.cf M.ch 4 + M.house + a
  · have HX : Hid (Mk.payM M who a = (6, M)) := if_pos hbig
    go_wp2_with fail
    go_ret
    exact ⟨by rw [HX.out]; rfl, by rw [HX.out]; exact HP2.out, Only.of_below HB2.out⟩
  · have HX : Hid (Mk.payM M who a = (0, { M with cf := upd M.cf who (M.cf who + a) })) := if_neg hbig
    go_wp2_with fail
    go_region
    go_wp2_with fail
    go_ret
    refine ⟨by rw [HX.out]; rfl, by rw [HX.out]; exact (HP2.out.setCf HW.out _).below (Below.refl _ _).drew, ?_⟩
    exact ((Only.of_below HB2.out).set (show PHas p vb p from .inl rfl) _).next (Below.refl _ _).drew

set_option maxRecDepth 100000 in
set_option maxHeartbeats 2000000 in
theorem pdraw_any (p : Nat) (vb : Nat → Value) (M : Mk.Mkt) (who : Nat) (r : Int) (t : ByteArray) (vo a pr q o : Int) (m : Bool) (w : World) (hM : M.Fine) (hP : PM w p vb M) (hw : who < 4) (hn : 0 ≤ a ∧ a ≤ 9999) :
    Calls Tryz.prog 101 #[.pointer (some ⟨p, 0, none⟩), rqA who r t vo a pr q o m] w fun e w' => PDoes p vb (Mk.drawM M who a) w e w' := by
  have HB1 : Hid (Below w.heap.size w (w.alloc (rqO who r t vo a pr q o m))) := (Below.refl _ _).alloc (Nat.le_refl _) _
  have HP1 : Hid (PM (w.alloc (rqO who r t vo a pr q o m)) p vb M) := hP.below HB1.out
  have x0 : (w.alloc (rqO who r t vo a pr q o m)).cell? ⟨w.heap.size, 0, none⟩ = some (.int .i64 (who : Int)) := by simp
  have x4 : (w.alloc (rqO who r t vo a pr q o m)).cell? ⟨w.heap.size, 4, none⟩ = some (.int .i64 a) := by simp
  have hw' : (who : Int) < 4 := by omega
  have bf := hM.cf who hw
  have HW : Hid (who < 4) := hw
  clear hM hP
  go_enter Tryz.func101, Tryz.ntmps101
  go_upto_region 1 with fail
  generalize w.alloc (rqO who r t vo a pr q o m) = W1 at *
  have f0 := HP1.out.ac hw (k := 0) (by omega)
  have z0 := HP1.out.box.frozen (who * 6)
  simp only [acF, Nat.add_zero] at f0
  by_cases hbig : M.cf who < a
  · have HX : Hid (Mk.drawM M who a = (5, M)) := if_pos hbig
    go_region_with (go_at_call 114; (refine (take_no p (who * 6) (M.cf who) a _ (by simpa using f0) hbig).mono ?_; rintro e w2 ⟨rfl, hw2⟩))
    all_goals
      obtain rfl := hw2
      go_wp2_with fail
      go_ret
      exact ⟨by rw [HX.out]; rfl, by rw [HX.out]; exact HP1.out.below (Below.refl _ _).drew, Only.of_below HB1.out.drew⟩
  · have HX : Hid (Mk.drawM M who a = (0, { M with cf := upd M.cf who (M.cf who - a) })) := if_neg hbig
    go_region_with (go_at_call 114; (refine (take_yes p (who * 6) (M.cf who) a _ (by simpa using f0) (by simpa using z0) bf hn (by omega)).mono ?_; rintro e w2 ⟨rfl, hw2⟩))
    all_goals
      obtain rfl := hw2
      go_wp2_with fail
      go_ret
      refine ⟨by rw [HX.out]; rfl, by rw [HX.out]; exact (HP1.out.below (Below.refl _ _).drew).setCf HW.out _, ?_⟩
      exact (Only.of_below HB1.out.drew).set (show PHas p vb p from .inl rfl) _

end Go.Proofs.YtmebcdpdpcpnmaaGreatDoor

namespace Go.Proofs.YtmebcdpdpcpnmaaGreatDoor
open Go.RowKit

theorem PM.slot {w : World} {p : Nat} {vb : Nat → Value} {M : Mk.Mkt} (h : PM w p vb M) {v c : Nat} (hv : v < 2) (hc : c < 4) : w.cell? ⟨p, c * 6 + 2 + v * 2, none⟩ = some (.int .i64 (M.sf v c)) := by
  rcases (show v = 0 ∨ v = 1 by omega) with rfl | rfl
  · exact h.ac hc (k := 2) (by omega)
  · exact h.ac hc (k := 4) (by omega)

set_option maxRecDepth 100000 in
set_option maxHeartbeats 2000000 in
theorem pbring_any (p : Nat) (vb : Nat → Value) (M : Mk.Mkt) (who : Nat) (r : Int) (t : ByteArray) (v : Nat) (a pr q o : Int) (m : Bool) (w : World) (hM : M.Fine) (hP : PM w p vb M) (hw : who < 4) (hv : v < 2) (hn : 0 ≤ a ∧ a ≤ 9999) :
    Calls Tryz.prog 102 #[.pointer (some ⟨p, 0, none⟩), rqA who r t v a pr q o m] w fun e w' => PDoes p vb (Mk.bringM M v who a) w e w' := by
  have HM : Hid M.Fine := hM
  have HB1 : Hid (Below w.heap.size w (w.alloc (rqO who r t v a pr q o m))) := (Below.refl _ _).alloc (Nat.le_refl _) _
  have HP1 : Hid (PM (w.alloc (rqO who r t v a pr q o m)) p vb M) := hP.below HB1.out
  have x0 : (w.alloc (rqO who r t v a pr q o m)).cell? ⟨w.heap.size, 0, none⟩ = some (.int .i64 (who : Int)) := by simp
  have x4 : (w.alloc (rqO who r t v a pr q o m)).cell? ⟨w.heap.size, 4, none⟩ = some (.int .i64 a) := by simp
  have hsz : w.heap.size < (w.alloc (rqO who r t v a pr q o m)).heap.size := by simp
  have hw' : (who : Int) < 4 := by omega
  have x3 : (w.alloc (rqO who r t v a pr q o m)).cell? ⟨w.heap.size, 3, none⟩ = some (.int .i64 (v : Int)) := by simp
  have hv' : (v : Int) < 2 := by omega
  have HBd : Hid (∀ c, c < 4 → 0 ≤ M.sf v c ∧ M.sf v c ≤ 9999 ∧ 0 ≤ M.sh v c ∧ M.sh v c ≤ 9999) := fun c hc => ⟨(hM.sf v c hv hc).1, (hM.sf v c hv hc).2, (hM.sh v c hv hc).1, (hM.sh v c hv hc).2⟩
  have tb := totTo_bd HBd.out 4 (by omega)
  clear hM hP
  go_enter Tryz.func102, Tryz.ntmps102
  go_upto_region 1 with fail
  generalize w.alloc (rqO who r t v a pr q o m) = W1 at *
  have hwr : IntKind.i64.wrap (totTo (M.sf v) (M.sh v) 4 + a) = totTo (M.sf v) (M.sh v) 4 + a := IntWalk.i64_in _ (by omega)
  have c4 : ∀ u : Wof (Below W1.heap.size W1), u.val.cell? ⟨w.heap.size, 4, none⟩ = some (.int .i64 a) := fun u => (u.ok.cell (p := ⟨w.heap.size, 4, none⟩) hsz).trans x4
  have c3 : ∀ u : Wof (Below W1.heap.size W1), u.val.cell? ⟨w.heap.size, 3, none⟩ = some (.int .i64 (v : Int)) := fun u => (u.ok.cell (p := ⟨w.heap.size, 3, none⟩) hsz).trans x3
  have hne : Nonempty (Wof (Below W1.heap.size W1)) := ⟨⟨W1, Below.refl _ _⟩⟩
  refine wp_region_calls (S := Below W1.heap.size W1) (by kernel_rfl) (by kernel_rfl) (Below.refl _ _).drew ?_
  repeat (quiet_step ((rename_i u; refine (allSlots_any p vb M v _ hv HM.out (HP1.out.below u.ok)).mono ?_; rintro e w3 ⟨rfl, hb3⟩; exact ⟨rfl, ⟨w3, u.ok.trans (hb3.mono u.ok.size)⟩, rfl⟩)))
  refine wpQuiet_nil ?_
  rintro _ ⟨u, rfl⟩
  have HB2 : Hid (Below w.heap.size w u.val) := HB1.out.trans (u.ok.mono HB1.out.size)
  have HP2 : Hid (PM u.val p vb M) := HP1.out.below u.ok
  have y0 : u.val.cell? ⟨w.heap.size, 0, none⟩ = some (.int .i64 (who : Int)) := (u.ok.cell (p := ⟨w.heap.size, 0, none⟩) hsz).trans x0
  have y4 : u.val.cell? ⟨w.heap.size, 4, none⟩ = some (.int .i64 a) := c4 u
  have y3 : u.val.cell? ⟨w.heap.size, 3, none⟩ = some (.int .i64 (v : Int)) := c3 u
  clear c3 c4 x0 x3 x4 hne
  generalize u.val = W2 at *
  have f0 := HP2.out.slot hv hw
  have z0 := HP2.out.box.frozen (who * 6 + 2 + v * 2)
  have bf := HM.out.sf v who hv hw
  have HV : Hid (v < 2) := hv
  have HW : Hid (who < 4) := hw
  by_cases hbig : 999 < totTo (M.sf v) (M.sh v) 4 + a
  · have HX : Hid (Mk.bringM M v who a = (6, M)) := if_pos hbig
    go_wp2_with fail
    go_ret
    exact ⟨by rw [HX.out]; rfl, by rw [HX.out]; exact HP2.out, Only.of_below HB2.out⟩
  · have HX : Hid (Mk.bringM M v who a = (0, { M with sf := upd M.sf v (upd (M.sf v) who (M.sf v who + a)) })) := if_neg hbig
    go_wp2_with fail
    go_region
    go_wp2_with fail
    go_ret
    refine ⟨by rw [HX.out]; rfl, by rw [HX.out]; exact (HP2.out.setSf HV.out HW.out _).below (Below.refl _ _).drew, ?_⟩
    exact ((Only.of_below HB2.out).set (show PHas p vb p from .inl rfl) _).next (Below.refl _ _).drew

set_option maxRecDepth 100000 in
set_option maxHeartbeats 2000000 in
theorem pfetch_any (p : Nat) (vb : Nat → Value) (M : Mk.Mkt) (who : Nat) (r : Int) (t : ByteArray) (v : Nat) (a pr q o : Int) (m : Bool) (w : World) (hM : M.Fine) (hP : PM w p vb M) (hw : who < 4) (hv : v < 2) (hn : 0 ≤ a ∧ a ≤ 9999) :
    Calls Tryz.prog 103 #[.pointer (some ⟨p, 0, none⟩), rqA who r t v a pr q o m] w fun e w' => PDoes p vb (Mk.fetchM M v who a) w e w' := by
  have HB1 : Hid (Below w.heap.size w (w.alloc (rqO who r t v a pr q o m))) := (Below.refl _ _).alloc (Nat.le_refl _) _
  have HP1 : Hid (PM (w.alloc (rqO who r t v a pr q o m)) p vb M) := hP.below HB1.out
  have x0 : (w.alloc (rqO who r t v a pr q o m)).cell? ⟨w.heap.size, 0, none⟩ = some (.int .i64 (who : Int)) := by simp
  have x4 : (w.alloc (rqO who r t v a pr q o m)).cell? ⟨w.heap.size, 4, none⟩ = some (.int .i64 a) := by simp
  have x3 : (w.alloc (rqO who r t v a pr q o m)).cell? ⟨w.heap.size, 3, none⟩ = some (.int .i64 (v : Int)) := by simp
  have hw' : (who : Int) < 4 := by omega
  have hv' : (v : Int) < 2 := by omega
  have bf := hM.sf v who hv hw
  have HV : Hid (v < 2) := hv
  have HW : Hid (who < 4) := hw
  clear hM hP
  go_enter Tryz.func103, Tryz.ntmps103
  go_upto_region 1 with fail
  generalize w.alloc (rqO who r t v a pr q o m) = W1 at *
  have f0 := HP1.out.slot hv hw
  have z0 := HP1.out.box.frozen (who * 6 + 2 + v * 2)
  by_cases hbig : M.sf v who < a
  · have HX : Hid (Mk.fetchM M v who a = (5, M)) := if_pos hbig
    go_region_with (go_at_call 114; (refine (take_no p (who * 6 + 2 + v * 2) (M.sf v who) a _ (by simpa using f0) hbig).mono ?_; rintro e w2 ⟨rfl, hw2⟩))
    all_goals
      obtain rfl := hw2
      go_wp2_with fail
      go_ret
      exact ⟨by rw [HX.out]; rfl, by rw [HX.out]; exact HP1.out.below (Below.refl _ _).drew, Only.of_below HB1.out.drew⟩
  · have HX : Hid (Mk.fetchM M v who a = (0, { M with sf := upd M.sf v (upd (M.sf v) who (M.sf v who - a)) })) := if_neg hbig
    go_region_with (go_at_call 114; (refine (take_yes p (who * 6 + 2 + v * 2) (M.sf v who) a _ (by simpa using f0) (by simpa using z0) bf hn (by omega)).mono ?_; rintro e w2 ⟨rfl, hw2⟩))
    all_goals
      obtain rfl := hw2
      go_wp2_with fail
      go_ret
      refine ⟨by rw [HX.out]; rfl, by rw [HX.out]; exact (HP1.out.below (Below.refl _ _).drew).setSf HV.out HW.out _, ?_⟩
      exact (Only.of_below HB1.out.drew).set (show PHas p vb p from .inl rfl) _

end Go.Proofs.YtmebcdpdpcpnmaaGreatDoor

namespace Go.Proofs.YtmebcdpdpcpnmaaGreatDoor
open Go.RowKit

theorem PM.book {w : World} {p : Nat} {vb : Nat → Value} {M : Mk.Mkt} (h : PM w p vb M) {v : Nat} (hv : v < 2) : ∃ a cap, vb v = .slice a (M.bk v).length cap := by
  rcases (h.bk v hv).2 with ⟨e, h0⟩ | ⟨g, cap, cur, e, _⟩
  · exact ⟨none, 0, by rw [e, h0]⟩
  · exact ⟨_, cap, e⟩

set_option maxRecDepth 100000 in
set_option maxHeartbeats 2000000 in
theorem psetMode_any (p : Nat) (vb : Nat → Value) (M : Mk.Mkt) (who : Nat) (r : Int) (t : ByteArray) (v : Nat) (a pr q o : Int) (m : Bool) (w : World) (hM : M.Fine) (hP : PM w p vb M) (hv : v < 2) :
    Calls Tryz.prog 106 #[.pointer (some ⟨p, 0, none⟩), rqA who r t v a pr q o m] w fun e w' => PDoes p vb (Mk.modeM M v m) w e w' := by
  have HB1 : Hid (Below w.heap.size w (w.alloc (rqO who r t v a pr q o m))) := (Below.refl _ _).alloc (Nat.le_refl _) _
  have HP1 : Hid (PM (w.alloc (rqO who r t v a pr q o m)) p vb M) := hP.below HB1.out
  have x3 : (w.alloc (rqO who r t v a pr q o m)).cell? ⟨w.heap.size, 3, none⟩ = some (.int .i64 (v : Int)) := by simp
  have x8 : (w.alloc (rqO who r t v a pr q o m)).cell? ⟨w.heap.size, 8, none⟩ = some (.int .i64 (mdI m)) := by simp
  have hv' : (v : Int) < 2 := by omega
  have HV : Hid (v < 2) := hv
  obtain ⟨ba, bc, hbv⟩ := hP.book hv
  have hlen := hM.len v hv
  clear hM hP
  go_enter Tryz.func106, Tryz.ntmps106
  go_upto_region 1 with fail
  generalize w.alloc (rqO who r t v a pr q o m) = W1 at *
  go_quiet (fail)
  have HB2 : Hid (Below w.heap.size w (W1.drewN nq)) := below_drewN HB1.out nq
  have HP2 : Hid (PM (W1.drewN nq) p vb M) := HP1.out.below (below_drewN (Below.refl _ _) nq)
  have y8 : (W1.drewN nq).cell? ⟨w.heap.size, 8, none⟩ = some (.int .i64 (mdI m)) := by simpa using x8
  clear x3 x8
  generalize W1.drewN nq = W2 at *
  have c1 := HP2.out.vo hv (k := 1) (by omega)
  have c0 := HP2.out.vo hv (k := 0) (by omega)
  have z0 := HP2.out.box.frozen (25 + v * 3)
  simp only [voF, Nat.add_zero] at c0 c1
  rw [hbv] at c1
  clear hbv
  by_cases h0 : 0 < (M.bk v).length
  · have HX : Hid (Mk.modeM M v m = (9, M)) := if_pos h0
    have h0' : (0 : Int) < ((M.bk v).length : Int) := by omega
    clear h0
    go_wp2_with fail
    go_ret
    exact ⟨by rw [HX.out]; rfl, by rw [HX.out]; exact HP2.out, Only.of_below HB2.out⟩
  · have HX : Hid (Mk.modeM M v m = (0, { M with md := upd M.md v m })) := if_neg h0
    have h0' : ¬ (0 : Int) < ((M.bk v).length : Int) := by omega
    clear h0
    go_wp2_with fail
    go_ret
    refine ⟨by rw [HX.out]; rfl, by rw [HX.out]; exact HP2.out.setMd HV.out m, ?_⟩
    exact (Only.of_below HB2.out).set (show PHas p vb p from .inl rfl) _

/-- what carryOut, Do of the program leave: a text, an error, the market -/
def PDoT (p : Nat) (vb : Nat → Value) (x : ByteArray × Int × Mk.Mkt) (w : World) (e : Ending) (w' : World) : Prop :=
  e = .returned (.tuple #[.string x.1, .int .i64 x.2.1]) ∧ ∃ vb', PM w' p vb' x.2.2 ∧ Only (PHas p vb) w w' ∧ ∀ k, PHas p vb' k → PHas p vb k ∨ w.heap.size ≤ k
theorem pdoT_of {p : Nat} {vb : Nat → Value} {x : Int × Mk.Mkt} {w w1 w2 : World} (hb : Below w.heap.size w w1) (hR : PM w2 p vb x.2) (ho : Only (PHas p vb) w1 w2) : PDoT p vb (⟨#[]⟩, x.1, x.2) w (.returned (.tuple #[.string ⟨#[]⟩, .int .i64 x.1])) w2 :=
  ⟨rfl, vb, hR, (Only.of_below hb).trans ho (fun _ _ h => h), fun _ h => .inl h⟩

set_option maxRecDepth 100000 in
set_option maxHeartbeats 2000000 in
theorem carry_pay (p : Nat) (vb : Nat → Value) (M : Mk.Mkt) (who : Nat) (r : Int) (vo a pr q o : Int) (m : Bool) (w : World) (hM : M.Fine) (hP : PM w p vb M) (hw : who < 4) (hn : 0 ≤ a ∧ a ≤ 9999) :
    Calls Tryz.prog 78 #[.pointer (some ⟨p, 0, none⟩), rqA who r ⟨#[112, 97, 121]⟩ vo a pr q o m] w fun e w' => PDoT p vb (⟨#[]⟩, (Mk.payM M who a).1, (Mk.payM M who a).2) w e w' := by
  have HM : Hid M.Fine := hM
  have HB1 : Hid (Below w.heap.size w (w.alloc (rqO who r ⟨#[112, 97, 121]⟩ vo a pr q o m))) := (Below.refl _ _).alloc (Nat.le_refl _) _
  have HP1 : Hid (PM (w.alloc (rqO who r ⟨#[112, 97, 121]⟩ vo a pr q o m)) p vb M) := hP.below HB1.out
  clear hM hP
  go_enter Tryz.func78, Tryz.ntmps78
  go_wp2_with fail
  refine (ppay_any p vb M who r ⟨#[112, 97, 121]⟩ vo a pr q o m _ HM.out HP1.out hw hn).mono ?_
  rintro e w2 ⟨rfl, hR2, ho⟩
  have HD : Hid (PDoT p vb (⟨#[]⟩, (Mk.payM M who a).1, (Mk.payM M who a).2) w (.returned (.tuple #[.string ⟨#[]⟩, .int .i64 (Mk.payM M who a).1])) w2) := pdoT_of HB1.out hR2 ho
  clear hR2 ho
  go_wp2_with fail
  refine bodyPost_ret (v := .tuple #[.string ⟨#[]⟩, .int .i64 (Mk.payM M who a).1]) ?_ rfl HD.out
  simp [results, Tryz.results78, go_sem]

set_option maxRecDepth 100000 in
set_option maxHeartbeats 2000000 in
theorem carry_draw (p : Nat) (vb : Nat → Value) (M : Mk.Mkt) (who : Nat) (r : Int) (vo a pr q o : Int) (m : Bool) (w : World) (hM : M.Fine) (hP : PM w p vb M) (hw : who < 4) (hn : 0 ≤ a ∧ a ≤ 9999) :
    Calls Tryz.prog 78 #[.pointer (some ⟨p, 0, none⟩), rqA who r ⟨#[100, 114, 97, 119]⟩ vo a pr q o m] w fun e w' => PDoT p vb (⟨#[]⟩, (Mk.drawM M who a).1, (Mk.drawM M who a).2) w e w' := by
  have HM : Hid M.Fine := hM
  have HB1 : Hid (Below w.heap.size w (w.alloc (rqO who r ⟨#[100, 114, 97, 119]⟩ vo a pr q o m))) := (Below.refl _ _).alloc (Nat.le_refl _) _
  have HP1 : Hid (PM (w.alloc (rqO who r ⟨#[100, 114, 97, 119]⟩ vo a pr q o m)) p vb M) := hP.below HB1.out
  clear hM hP
  go_enter Tryz.func78, Tryz.ntmps78
  go_wp2_with fail
  refine (pdraw_any p vb M who r ⟨#[100, 114, 97, 119]⟩ vo a pr q o m _ HM.out HP1.out hw hn).mono ?_
  rintro e w2 ⟨rfl, hR2, ho⟩
  have HD : Hid (PDoT p vb (⟨#[]⟩, (Mk.drawM M who a).1, (Mk.drawM M who a).2) w (.returned (.tuple #[.string ⟨#[]⟩, .int .i64 (Mk.drawM M who a).1])) w2) := pdoT_of HB1.out hR2 ho
  clear hR2 ho
  go_wp2_with fail
  refine bodyPost_ret (v := .tuple #[.string ⟨#[]⟩, .int .i64 (Mk.drawM M who a).1]) ?_ rfl HD.out
  simp [results, Tryz.results78, go_sem]

set_option maxRecDepth 100000 in
set_option maxHeartbeats 2000000 in
theorem carry_bring (p : Nat) (vb : Nat → Value) (M : Mk.Mkt) (who : Nat) (r : Int) (v : Nat) (a pr q o : Int) (m : Bool) (w : World) (hM : M.Fine) (hP : PM w p vb M) (hw : who < 4) (hv : v < 2) (hn : 0 ≤ a ∧ a ≤ 9999) :
    Calls Tryz.prog 78 #[.pointer (some ⟨p, 0, none⟩), rqA who r ⟨#[98, 114, 105, 110, 103]⟩ v a pr q o m] w fun e w' => PDoT p vb (⟨#[]⟩, (Mk.bringM M v who a).1, (Mk.bringM M v who a).2) w e w' := by
  have HM : Hid M.Fine := hM
  have HB1 : Hid (Below w.heap.size w (w.alloc (rqO who r ⟨#[98, 114, 105, 110, 103]⟩ v a pr q o m))) := (Below.refl _ _).alloc (Nat.le_refl _) _
  have HP1 : Hid (PM (w.alloc (rqO who r ⟨#[98, 114, 105, 110, 103]⟩ v a pr q o m)) p vb M) := hP.below HB1.out
  clear hM hP
  go_enter Tryz.func78, Tryz.ntmps78
  go_wp2_with fail
  refine (pbring_any p vb M who r ⟨#[98, 114, 105, 110, 103]⟩ v a pr q o m _ HM.out HP1.out hw hv hn).mono ?_
  rintro e w2 ⟨rfl, hR2, ho⟩
  have HD : Hid (PDoT p vb (⟨#[]⟩, (Mk.bringM M v who a).1, (Mk.bringM M v who a).2) w (.returned (.tuple #[.string ⟨#[]⟩, .int .i64 (Mk.bringM M v who a).1])) w2) := pdoT_of HB1.out hR2 ho
  clear hR2 ho
  go_wp2_with fail
  refine bodyPost_ret (v := .tuple #[.string ⟨#[]⟩, .int .i64 (Mk.bringM M v who a).1]) ?_ rfl HD.out
  simp [results, Tryz.results78, go_sem]

set_option maxRecDepth 100000 in
set_option maxHeartbeats 2000000 in
theorem carry_fetch (p : Nat) (vb : Nat → Value) (M : Mk.Mkt) (who : Nat) (r : Int) (v : Nat) (a pr q o : Int) (m : Bool) (w : World) (hM : M.Fine) (hP : PM w p vb M) (hw : who < 4) (hv : v < 2) (hn : 0 ≤ a ∧ a ≤ 9999) :
    Calls Tryz.prog 78 #[.pointer (some ⟨p, 0, none⟩), rqA who r ⟨#[102, 101, 116, 99, 104]⟩ v a pr q o m] w fun e w' => PDoT p vb (⟨#[]⟩, (Mk.fetchM M v who a).1, (Mk.fetchM M v who a).2) w e w' := by
  have HM : Hid M.Fine := hM
  have HB1 : Hid (Below w.heap.size w (w.alloc (rqO who r ⟨#[102, 101, 116, 99, 104]⟩ v a pr q o m))) := (Below.refl _ _).alloc (Nat.le_refl _) _
  have HP1 : Hid (PM (w.alloc (rqO who r ⟨#[102, 101, 116, 99, 104]⟩ v a pr q o m)) p vb M) := hP.below HB1.out
  clear hM hP
  go_enter Tryz.func78, Tryz.ntmps78
  go_wp2_with fail
  refine (pfetch_any p vb M who r ⟨#[102, 101, 116, 99, 104]⟩ v a pr q o m _ HM.out HP1.out hw hv hn).mono ?_
  rintro e w2 ⟨rfl, hR2, ho⟩
  have HD : Hid (PDoT p vb (⟨#[]⟩, (Mk.fetchM M v who a).1, (Mk.fetchM M v who a).2) w (.returned (.tuple #[.string ⟨#[]⟩, .int .i64 (Mk.fetchM M v who a).1])) w2) := pdoT_of HB1.out hR2 ho
  clear hR2 ho
  go_wp2_with fail
  refine bodyPost_ret (v := .tuple #[.string ⟨#[]⟩, .int .i64 (Mk.fetchM M v who a).1]) ?_ rfl HD.out
  simp [results, Tryz.results78, go_sem]

set_option maxRecDepth 100000 in
set_option maxHeartbeats 2000000 in
theorem carry_mode (p : Nat) (vb : Nat → Value) (M : Mk.Mkt) (who : Nat) (r : Int) (v : Nat) (a pr q o : Int) (m : Bool) (w : World) (hM : M.Fine) (hP : PM w p vb M) (hv : v < 2) :
    Calls Tryz.prog 78 #[.pointer (some ⟨p, 0, none⟩), rqA who r ⟨#[109, 111, 100, 101]⟩ v a pr q o m] w fun e w' => PDoT p vb (⟨#[]⟩, (Mk.modeM M v m).1, (Mk.modeM M v m).2) w e w' := by
  have HM : Hid M.Fine := hM
  have HB1 : Hid (Below w.heap.size w (w.alloc (rqO who r ⟨#[109, 111, 100, 101]⟩ v a pr q o m))) := (Below.refl _ _).alloc (Nat.le_refl _) _
  have HP1 : Hid (PM (w.alloc (rqO who r ⟨#[109, 111, 100, 101]⟩ v a pr q o m)) p vb M) := hP.below HB1.out
  clear hM hP
  go_enter Tryz.func78, Tryz.ntmps78
  go_wp2_with fail
  refine (psetMode_any p vb M who r ⟨#[109, 111, 100, 101]⟩ v a pr q o m _ HM.out HP1.out hv).mono ?_
  rintro e w2 ⟨rfl, hR2, ho⟩
  have HD : Hid (PDoT p vb (⟨#[]⟩, (Mk.modeM M v m).1, (Mk.modeM M v m).2) w (.returned (.tuple #[.string ⟨#[]⟩, .int .i64 (Mk.modeM M v m).1])) w2) := pdoT_of HB1.out hR2 ho
  clear hR2 ho
  go_wp2_with fail
  refine bodyPost_ret (v := .tuple #[.string ⟨#[]⟩, .int .i64 (Mk.modeM M v m).1]) ?_ rfl HD.out
  simp [results, Tryz.results78, go_sem]

end Go.Proofs.YtmebcdpdpcpnmaaGreatDoor
