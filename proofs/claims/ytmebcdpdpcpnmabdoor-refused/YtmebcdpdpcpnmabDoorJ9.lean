import Derived.Test.YtmebcdpdpcpnmabDoorJ8
import Derived.Test.YtmebcdpdpcpnmabDoorJ7
import Derived.Deep.RegionWith
import Derived.Test.YtmebcdpdpcpnmabDoorJ4
import Derived.Test.YtmebcdpdpcpnmabDoorJ5
import Derived.Test.YtmebcdpdpcpnmabDoorJ1
namespace Go.Proofs.YtmebcdpdpcpnmabDoor
open Go.RowKit

theorem results_tmp4 {fn : Func} {t u v x : Tmp} (h : fn.results = #[.tmp t, .tmp u, .tmp v, .tmp x]) (tmps : Array Value) (P : Program) (w : World) :
    (results fn tmps).run P w = .ok (.tuple #[tmps.getD t undef, tmps.getD u undef, tmps.getD v undef, tmps.getD x undef]) w := by
  simp [results, h]

/-- a pair in a box -/
structure Bp (w : World) (B : Nat) (x y : Int) : Prop where
  c0 : w.cell? ⟨B, 0, none⟩ = some (.int .i64 x)
  c1 : w.cell? ⟨B, 1, none⟩ = some (.int .i64 y)
theorem Bp.lt {w : World} {B : Nat} {x y : Int} (h : Bp w B x y) : B < w.heap.size := blk_lt h.c0
theorem Bp.below {w w' : World} {B n : Nat} {x y : Int} (h : Bp w B x y) (hb : Below n w w') (hn : B < n) : Bp w' B x y :=
  ⟨(hb.cell (p := ⟨B, 0, none⟩) hn).trans h.c0, (hb.cell (p := ⟨B, 1, none⟩) hn).trans h.c1⟩
theorem Bp.born (w : World) (x y : Int) (t : TypeId) : Bp (w.alloc (.cells #[.int .i64 x, .int .i64 y] t)) w.heap.size x y := ⟨by simp, by simp⟩

set_option maxHeartbeats 1000000 in
theorem mcafee_bad (a : Option Addr) (cap : Nat) (l : List Mk.Ord) (w : World) (hv : Mk.validB 1 l = false) (hR : Rd w a l) :
    Calls Tryd.prog 79 #[.slice a l.length cap] w fun e w' => e = .returned (.tuple #[.slice none 0 0, .int .i64 0, .int .i64 0, .int .i64 1]) ∧ Below w.heap.size w w' := by
  have HR : Hid (Rd w a l) := hR
  clear hR
  rcases Bool.eq_false_or_eq_true (Mk.validB 20 l) with h20 | h20
  · have h12 := (Mk.ok_of_valid h20).1
    have hone : l.all Mk.oneB = false := by rw [Mk.valid_one, h20, Bool.true_and] at hv; exact hv
    have HO : Hid (l.all Mk.oneB = false) := hone
    clear hv hone
    go_enter Tryd.func79, Tryd.ntmps79
    go_wp2_with fail
    refine (isBatch_any a cap l _ HR.out).mono ?_
    rintro e w1 ⟨rfl, hb1⟩
    have Hb1 : Hid (Below w.heap.size w w1) := hb1
    clear hb1
    go_wp2_with fail
    refine (areSingle_any a cap l _ h12 (HR.out.below Hb1.out)).mono ?_
    rw [HO.out]
    rintro e w2 ⟨rfl, hb2⟩
    have Hb2 : Hid (Below w.heap.size w w2) := Hb1.out.trans (hb2.mono Hb1.out.size)
    clear hb2
    go_wp2
    (try simp only [Exit.inBlock, Exit.then]); refine bodyPost_ret (results_tmp4 rfl _ _ _) rfl ?_
    exact ⟨rfl, Hb2.out⟩
  · clear hv
    go_enter Tryd.func79, Tryd.ntmps79
    go_wp2_with fail
    refine (isBatch_any a cap l _ HR.out).mono ?_
    rintro e w1 ⟨rfl, hb1⟩
    have Hb1 : Hid (Below w.heap.size w w1) := hb1
    clear hb1
    go_wp2
    (try simp only [Exit.inBlock, Exit.then]); refine bodyPost_ret (results_tmp4 rfl _ _ _) rfl ?_
    exact ⟨rfl, Hb1.out⟩

/-- what the program's McAfee holds behind its two pairs -/
def lastB (l : List Mk.Ord) : Int := Mk.lastTo l false ((Mk.kk l : Int) - 1) 0 l.length
def lastS (l : List Mk.Ord) : Int := Mk.lastTo l true ((Mk.kk l : Int) - 1) 100 l.length
theorem lastB_is {l : List Mk.Ord} (h : Mk.kk l ≠ 0) : lastB l = Mk.pB l (Mk.kk l - 1) := by
  unfold lastB
  rw [show ((Mk.kk l : Int) - 1) = ((Mk.kk l - 1 : Nat) : Int) by omega, Mk.lastTo_all, Mk.prAt_B]
theorem lastS_is {l : List Mk.Ord} (h : Mk.kk l ≠ 0) : lastS l = Mk.pS l (Mk.kk l - 1) := by
  unfold lastS
  rw [show ((Mk.kk l : Int) - 1) = ((Mk.kk l - 1 : Nat) : Int) by omega, Mk.lastTo_all, Mk.prAt_S]
theorem pairAt_last (a : Option Addr) (cap g : Nat) (l : List Mk.Ord) (w : World) (h12 : l.length ≤ 12) (hR : Rd w a l) (hrow : w.rowIs g 3 l.length (fun j => .int .i64 (Mk.rk l j : Int))) :
    Calls Tryd.prog 88 #[.slice a l.length cap, .slice (some ⟨g, 0, none⟩) l.length l.length, .int .i64 ((Mk.kk l : Int) - 1)] w fun e w' =>
      e = .returned (.agg #[.int .i64 (lastB l), .int .i64 (lastS l)]) ∧ Below w.heap.size w w' := pairAt_any a cap g l _ w h12 hR hrow

/-- the answer of McAfee -/
def McIs (l : List Mk.Ord) (w : World) (e : Ending) (w' : World) : Prop :=
  ∃ g, e = .returned (.tuple #[.slice (some ⟨g, 0, none⟩) l.length l.length, .int .i64 (Mk.mcPay l), .int .i64 (Mk.mcGet l), .int .i64 0]) ∧ w.heap.size ≤ g ∧ Below w.heap.size w w' ∧ w'.rowIs g 3 l.length (fun i => .int .i64 (Mk.mcF l i))

theorem mcIs_zero {l : List Mk.Ord} {w w' : World} {g : Nat} (h : Mk.mcK l = 0 ∧ Mk.mcPay l = 0 ∧ Mk.mcGet l = 0) (hg : w.heap.size ≤ g) (hb : Below w.heap.size w w') (hrow : w'.rowIs g 3 l.length (fun _ => .int .i64 0)) :
    McIs l w (.returned (.tuple #[.slice (some ⟨g, 0, none⟩) l.length l.length, .int .i64 0, .int .i64 0, .int .i64 0])) w' :=
  ⟨g, by rw [h.2.1, h.2.2], hg, hb, hrow.congr (fun i _ => by rw [Mk.mcF_zero h.1])⟩
theorem mcIs_some {l : List Mk.Ord} {w w' : World} {g : Nat} {m : Int} {p q : Int} (hm : m = Mk.mcK l) (hp : p = Mk.mcPay l) (hq : q = Mk.mcGet l) (hg : w.heap.size ≤ g) (hb : Below w.heap.size w w') (hrow : w'.rowIs g 3 l.length (fun j => .int .i64 (if (Mk.rk l j : Int) < m then 1 else 0))) :
    McIs l w (.returned (.tuple #[.slice (some ⟨g, 0, none⟩) l.length l.length, .int .i64 p, .int .i64 q, .int .i64 0])) w' := by
  subst hp hq hm
  refine ⟨g, rfl, hg, hb, hrow.congr (fun i _ => ?_)⟩
  unfold Mk.mcF
  by_cases h : Mk.rk l i < Mk.mcK l
  · rw [if_pos h, if_pos (by omega)]
  · rw [if_neg h, if_neg (by omega)]

set_option maxRecDepth 100000 in
set_option maxHeartbeats 2000000 in
theorem mcafee_any (a : Option Addr) (cap : Nat) (l : List Mk.Ord) (w : World) (hv : Mk.validB 1 l = true) (hR : Rd w a l) :
    Calls Tryd.prog 79 #[.slice a l.length cap] w fun e w' => McIs l w e w' := by
  have HR : Hid (Rd w a l) := hR
  have h20 := Mk.valid_20 hv
  have h12 := (Mk.ok_of_valid h20).1
  have hone : l.all Mk.oneB = true := by rw [Mk.valid_one, h20, Bool.true_and] at hv; exact hv
  have HO : Hid (l.all Mk.oneB = true) := hone
  have HV : Hid (Mk.validB 20 l = true) := h20
  have hp := Mk.okP_of hv
  have HP : Hid (Mk.okP l) := hp
  have hmk := run_make_row' (P := Tryd.prog) 27 3 (.int .i64 0) 8 Tryd.underlying27 Tryd.infoInt rfl .i64 .i64 l.length (by omega) (by omega)
  have b1 := Mk.pB_bd hp (Mk.kk l)
  have b2 := Mk.pS_bd hp (Mk.kk l)
  have b3 := Mk.kk_le (l := l)
  clear hv hone hp hR
  go_enter Tryd.func79, Tryd.ntmps79
  go_wp2_with fail
  refine (isBatch_any a cap l _ HR.out).mono ?_
  rintro e w1 ⟨rfl, hb1⟩
  have Hb1 : Hid (Below w.heap.size w w1) := hb1
  clear hb1
  go_wp2_with fail
  refine (areSingle_any a cap l _ h12 (HR.out.below Hb1.out)).mono ?_
  rw [HO.out]
  rintro e w2 ⟨rfl, hb2⟩
  have Hb2 : Hid (Below w.heap.size w w2) := Hb1.out.trans (hb2.mono Hb1.out.size)
  clear hb2
  go_wp2_with fail
  refine (rowPlaces_any a cap l _ h12 (HR.out.below Hb2.out)).mono ?_
  rintro e w3 ⟨rfl, hp3⟩
  have Hb3 : Hid (Below w.heap.size w w3) := Hb2.out.trans (hp3.below.mono Hb2.out.size)
  have HW3 : Hid (w3.rowIs w2.heap.size 3 l.length (fun j => .int .i64 (Mk.rk l j : Int))) := hp3.row
  clear hp3
  go_wp2_with fail
  refine (countPairs_any a cap w2.heap.size l _ HV.out (HR.out.below Hb3.out) HW3.out).mono ?_
  rintro e w4 ⟨rfl, hb4⟩
  have Hb4 : Hid (Below w.heap.size w w4) := Hb3.out.trans (hb4.mono Hb3.out.size)
  have HW4 : Hid (w4.rowIs w2.heap.size 3 l.length (fun j => .int .i64 (Mk.rk l j : Int))) := row_below HW3.out hb4 (World.rowIs.lt HW3.out)
  clear hb4
  go_wp2_with fail
  refine (pairAt_last a cap w2.heap.size l _ h12 (HR.out.below Hb4.out) HW4.out).mono ?_
  rintro e w5 ⟨rfl, hb5⟩
  have Hb5 : Hid (Below w.heap.size w w5) := Hb4.out.trans (hb5.mono Hb4.out.size)
  have HW5 : Hid (w5.rowIs w2.heap.size 3 l.length (fun j => .int .i64 (Mk.rk l j : Int))) := row_below HW4.out hb5 (World.rowIs.lt HW4.out)
  clear hb5
  go_wp2_with fail
  have HLt : Hid (w2.heap.size < w5.heap.size) := World.rowIs.lt HW5.out
  refine (pairAt_nat a cap w2.heap.size l (Mk.kk l) _ h12 (HR.out.below (Hb5.out.alloc Hb5.out.size _)) (World.rowIs.alloc HW5.out _)).mono ?_
  rintro e w6 ⟨rfl, hb6⟩
  have Hb6 : Hid (Below w.heap.size w w6) := (Hb5.out.alloc Hb5.out.size _).trans (hb6.mono (Nat.le_trans Hb5.out.size (by simp)))
  have HW6 : Hid (w6.rowIs w2.heap.size 3 l.length (fun j => .int .i64 (Mk.rk l j : Int))) := row_below (World.rowIs.alloc HW5.out _) hb6 (by have := HLt.out; simp; omega)
  have hq6 : Bp w6 w5.heap.size (lastB l) (lastS l) := (Bp.born w5 (lastB l) (lastS l) _).below hb6 (by simp)
  have HQ6 : Hid (Bp w6 w5.heap.size (lastB l) (lastS l)) := hq6
  have hlt6 := hq6.lt
  obtain ⟨q0, q1⟩ := hq6
  clear hb6
  have HSz : Hid (w.heap.size ≤ w6.heap.size) := Hb6.out.size
  by_cases h0 : Mk.kk l = 0
  · have h0' : ¬ (0 : Int) < (Mk.kk l : Int) := by omega
    have h1' : ¬ (1 : Int) < (Mk.kk l : Int) := by omega
    have HZ : Hid (Mk.mcK l = 0 ∧ Mk.mcPay l = 0 ∧ Mk.mcGet l = 0) := Mk.mc_none h0
    clear h0
    go_wp2
    (try simp only [Exit.inBlock, Exit.then]); refine bodyPost_ret (results_tmp4 rfl _ _ _) rfl ?_
    have hrow := World.rowIs_made (w6.alloc (.cells #[.int .i64 (Mk.pB l (Mk.kk l)), .int .i64 (Mk.pS l (Mk.kk l))] 136)) (.int .i64 0) l.length 3
    simp only [World.size_alloc] at hrow
    refine mcIs_zero HZ.out ?_ ?_ hrow
    · have := HSz.out; omega
    · exact (Hb6.out.alloc HSz.out _).alloc (by have := HSz.out; simp; omega) _
  · have e1 := lastB_is h0
    have e2 := lastS_is h0
    have h0' : (0 : Int) < (Mk.kk l : Int) := by omega
    rcases Bool.eq_false_or_eq_true (Mk.full l) with hf | hf
    · obtain ⟨m1, m2⟩ := Mk.full_iff.1 hf
      have f1 : lastS l ≤ (Mk.pB l (Mk.kk l) + Mk.pS l (Mk.kk l)) / 2 := by rw [e2]; exact m1
      have f2 : (Mk.pB l (Mk.kk l) + Mk.pS l (Mk.kk l)) / 2 ≤ lastB l := by rw [e1]; exact m2
      have HM : Hid (Mk.mcK l = Mk.kk l ∧ Mk.mcPay l = Mk.mid l ∧ Mk.mcGet l = Mk.mid l) := Mk.mc_full h0 hf
      clear e1 e2 m1 m2 hf h0 hmk
      go_wp2_with fail
      refine (firstGet_any w2.heap.size l _ _ h12 (World.rowIs.alloc HW6.out _)).mono ?_
      rintro e w7 ⟨rfl, hp7⟩
      have HP7 := (show Hid _ from hp7)
      have HR7 := hp7.row
      simp only [World.size_alloc] at HR7
      have HR8 := (show Hid _ from HR7)
      clear hp7 HR7
      go_wp2
      (try simp only [Exit.inBlock, Exit.then]); refine bodyPost_ret (results_tmp4 rfl _ _ _) rfl ?_
      refine mcIs_some (by rw [HM.out.1]) HM.out.2.1.symm HM.out.2.2.symm ?_ ?_ HR8.out
      · have := HSz.out; simp; omega
      · exact (Hb6.out.alloc HSz.out _).trans (HP7.out.below.mono (by have := HSz.out; simp; omega))
    · have hn : ¬ (Mk.pS l (Mk.kk l - 1) ≤ Mk.mid l ∧ Mk.mid l ≤ Mk.pB l (Mk.kk l - 1)) := fun h => by rw [Mk.full_iff.2 h] at hf; cases hf
      have hn' : ¬ (lastS l ≤ (Mk.pB l (Mk.kk l) + Mk.pS l (Mk.kk l)) / 2 ∧ (Mk.pB l (Mk.kk l) + Mk.pS l (Mk.kk l)) / 2 ≤ lastB l) := by rw [e1, e2]; exact hn
      have HE : Hid (lastB l = Mk.pB l (Mk.kk l - 1) ∧ lastS l = Mk.pS l (Mk.kk l - 1)) := ⟨e1, e2⟩
      clear hn e1 e2
      obtain ⟨p, hpp⟩ : ∃ p, p = (Mk.pB l (Mk.kk l) + Mk.pS l (Mk.kk l)) / 2 := ⟨_, rfl⟩
      by_cases h1 : Mk.kk l = 1
      · have h1' : ¬ (1 : Int) < (Mk.kk l : Int) := by omega
        have HZ : Hid (Mk.mcK l = 0 ∧ Mk.mcPay l = 0 ∧ Mk.mcGet l = 0) := Mk.mc_one h1 hf
        clear h0 h1 hf hpp
        by_cases f1 : lastS l ≤ (Mk.pB l (Mk.kk l) + Mk.pS l (Mk.kk l)) / 2
        · have f2 : ¬ (Mk.pB l (Mk.kk l) + Mk.pS l (Mk.kk l)) / 2 ≤ lastB l := fun h => hn' ⟨f1, h⟩
          clear hn'
          go_wp2
          (try simp only [Exit.inBlock, Exit.then]); refine bodyPost_ret (results_tmp4 rfl _ _ _) rfl ?_
          have hrow := World.rowIs_made (w6.alloc (.cells #[.int .i64 (Mk.pB l (Mk.kk l)), .int .i64 (Mk.pS l (Mk.kk l))] 136)) (.int .i64 0) l.length 3
          simp only [World.size_alloc] at hrow
          refine mcIs_zero HZ.out ?_ ?_ hrow
          · have := HSz.out; omega
          · exact (Hb6.out.alloc HSz.out _).alloc (by have := HSz.out; simp; omega) _
        · clear hn'
          go_wp2
          (try simp only [Exit.inBlock, Exit.then]); refine bodyPost_ret (results_tmp4 rfl _ _ _) rfl ?_
          have hrow := World.rowIs_made (w6.alloc (.cells #[.int .i64 (Mk.pB l (Mk.kk l)), .int .i64 (Mk.pS l (Mk.kk l))] 136)) (.int .i64 0) l.length 3
          simp only [World.size_alloc] at hrow
          refine mcIs_zero HZ.out ?_ ?_ hrow
          · have := HSz.out; omega
          · exact (Hb6.out.alloc HSz.out _).alloc (by have := HSz.out; simp; omega) _
      · have h1' : (1 : Int) < (Mk.kk l : Int) := by omega
        have HM : Hid (Mk.mcK l = Mk.kk l - 1 ∧ Mk.mcPay l = Mk.pB l (Mk.kk l - 1) ∧ Mk.mcGet l = Mk.pS l (Mk.kk l - 1)) := Mk.mc_less (by omega) hf
        have HK : Hid (((Mk.kk l : Int) - 1) = ((Mk.kk l - 1 : Nat) : Int)) := (by omega : ((Mk.kk l : Int) - 1) = ((Mk.kk l - 1 : Nat) : Int))
        clear h0 h1 hf hpp hmk
        by_cases f1 : lastS l ≤ (Mk.pB l (Mk.kk l) + Mk.pS l (Mk.kk l)) / 2
        · have f2 : ¬ (Mk.pB l (Mk.kk l) + Mk.pS l (Mk.kk l)) / 2 ≤ lastB l := fun h => hn' ⟨f1, h⟩
          clear hn'
          go_wp2_with fail
          have HQ7 : Hid (Bp (w6.alloc (.cells #[.int .i64 (Mk.pB l (Mk.kk l)), .int .i64 (Mk.pS l (Mk.kk l))] 136)) w5.heap.size (lastB l) (lastS l)) := HQ6.out.below ((Below.refl _ _).alloc (Nat.le_refl _) _) hlt6
          have HB7 : Hid (Below w.heap.size w (w6.alloc (.cells #[.int .i64 (Mk.pB l (Mk.kk l)), .int .i64 (Mk.pS l (Mk.kk l))] 136))) := Hb6.out.alloc HSz.out _
          have HW7 : Hid ((w6.alloc (.cells #[.int .i64 (Mk.pB l (Mk.kk l)), .int .i64 (Mk.pS l (Mk.kk l))] 136)).rowIs w2.heap.size 3 l.length (fun j => .int .i64 (Mk.rk l j : Int))) := World.rowIs.alloc HW6.out _
          generalize w6.alloc (.cells #[.int .i64 (Mk.pB l (Mk.kk l)), .int .i64 (Mk.pS l (Mk.kk l))] 136) = W at *
          obtain ⟨k0, k1⟩ := HQ7.out
          have HQ8 : Hid (∀ w', Below W.drew.heap.size W.drew w' → Bp w' w5.heap.size (lastB l) (lastS l)) := fun w' hb => HQ7.out.below (w := W) ((Below.refl _ W).drew.trans hb) HQ7.out.lt
          go_region_with (go_at_call 89; (refine (firstGet_any w2.heap.size l _ _ h12 ?_).mono ?_; exact World.rowIs.drew HW7.out; rintro e w7 ⟨rfl, hp7⟩; obtain ⟨n0, n1⟩ := HQ8.out _ hp7.below))
          all_goals
            go_wp2
            (try simp only [Exit.inBlock, Exit.then]); refine bodyPost_ret (results_tmp4 rfl _ _ _) rfl ?_
            refine mcIs_some (by rw [HM.out.1, IntWalk.i64_in _ (by omega)]; exact HK.out) (HE.out.1.trans HM.out.2.1.symm) (HE.out.2.trans HM.out.2.2.symm) ?_ ?_ hp7.row
            · exact HB7.out.size
            · exact HB7.out.drew.trans (Below.mono hp7.below HB7.out.size)
        · clear hn'
          go_wp2_with fail
          have HQ7 : Hid (Bp (w6.alloc (.cells #[.int .i64 (Mk.pB l (Mk.kk l)), .int .i64 (Mk.pS l (Mk.kk l))] 136)) w5.heap.size (lastB l) (lastS l)) := HQ6.out.below ((Below.refl _ _).alloc (Nat.le_refl _) _) hlt6
          have HB7 : Hid (Below w.heap.size w (w6.alloc (.cells #[.int .i64 (Mk.pB l (Mk.kk l)), .int .i64 (Mk.pS l (Mk.kk l))] 136))) := Hb6.out.alloc HSz.out _
          have HW7 : Hid ((w6.alloc (.cells #[.int .i64 (Mk.pB l (Mk.kk l)), .int .i64 (Mk.pS l (Mk.kk l))] 136)).rowIs w2.heap.size 3 l.length (fun j => .int .i64 (Mk.rk l j : Int))) := World.rowIs.alloc HW6.out _
          generalize w6.alloc (.cells #[.int .i64 (Mk.pB l (Mk.kk l)), .int .i64 (Mk.pS l (Mk.kk l))] 136) = W at *
          obtain ⟨k0, k1⟩ := HQ7.out
          have HQ8 : Hid (∀ w', Below W.drew.heap.size W.drew w' → Bp w' w5.heap.size (lastB l) (lastS l)) := fun w' hb => HQ7.out.below (w := W) ((Below.refl _ W).drew.trans hb) HQ7.out.lt
          go_region_with (go_at_call 89; (refine (firstGet_any w2.heap.size l _ _ h12 ?_).mono ?_; exact World.rowIs.drew HW7.out; rintro e w7 ⟨rfl, hp7⟩; obtain ⟨n0, n1⟩ := HQ8.out _ hp7.below))
          all_goals
            go_wp2
            (try simp only [Exit.inBlock, Exit.then]); refine bodyPost_ret (results_tmp4 rfl _ _ _) rfl ?_
            refine mcIs_some (by rw [HM.out.1, IntWalk.i64_in _ (by omega)]; exact HK.out) (HE.out.1.trans HM.out.2.1.symm) (HE.out.2.trans HM.out.2.2.symm) ?_ ?_ hp7.row
            · exact HB7.out.size
            · exact HB7.out.drew.trans (Below.mono hp7.below HB7.out.size)

end Go.Proofs.YtmebcdpdpcpnmabDoor

namespace Go.Proofs.YtmebcdpdpcpnmabDoor
open Go.RowKit

/-- the row that McAfee fills, behind i orders -/
theorem fill_yes {l : List Mk.Ord} {m : Int} {k : Nat} (h : (Mk.rk l k : Int) < m) (j : Nat) : (if j = k then (1 : Int) else if j < k then (if (Mk.rk l j : Int) < m then 1 else 0) else 0) = if j < k + 1 then (if (Mk.rk l j : Int) < m then 1 else 0) else 0 :=
  Mk.step_on (G := fun j => if (Mk.rk l j : Int) < m then (1 : Int) else 0) (k := k) (if_pos h) j
theorem fill_no {l : List Mk.Ord} {m : Int} {k : Nat} (h : ¬ (Mk.rk l k : Int) < m) (j : Nat) : (if j < k then (if (Mk.rk l j : Int) < m then (1 : Int) else 0) else 0) = if j < k + 1 then (if (Mk.rk l j : Int) < m then 1 else 0) else 0 :=
  Mk.step_off (G := fun j => if (Mk.rk l j : Int) < m then (1 : Int) else 0) (k := k) (if_neg h) j

end Go.Proofs.YtmebcdpdpcpnmabDoor

namespace Go.Proofs.YtmebcdpdpcpnmabDoor
open Go.RowKit

end Go.Proofs.YtmebcdpdpcpnmabDoor

namespace Go.Proofs.YtmebcdpdpcpnmabDoor
open Go.RowKit

/-- a step of a script, as a value -/
abbrev opV (kind m a b : Int) (s : ByteArray) (oa : Option Addr) (n cap : Nat) : Value := .agg #[.int .i64 kind, .int .i64 m, .int .i64 a, .int .i64 b, .string s, .slice oa n cap]

/-- what a step leaves -/
def Left (G : Gst) (w : World) (B : Nat) (o : Outs) (e : Ending) (w' : World) : Prop := e = .returned (.bool true) ∧ ∃ o' vo' vw', o'.m ≤ o.m + 1 ∧ St G w' B o' vo' vw' ∧ Below B w w'

theorem St.lt {G : Gst} {w : World} {B : Nat} {o : Outs} {vo vw : Value} (h : St G w B o vo vw) : B < w.heap.size := h.pt.lt

/-- the numbers of list k, cell i turned to v -/
def Outs.put (o : Outs) (k i : Nat) (v : Int) : Outs := ⟨o.m, o.g, o.h, o.n, fun a => if a = k then fun j => if j = i then v else o.F k j else o.F a⟩

theorem St.order {G : Gst} {w : World} {B : Nat} {o : Outs} {vo vw : Value} (hS : St G w B o vo vw) {i k : Nat} (hi : i < o.m) (hk : k < o.m) (hne : i ≠ k) : o.g i ≠ o.g k ∧ o.h i ≠ o.h k ∧ o.g i ≠ o.h k ∧ o.h i ≠ o.g k := by
  have a := hS.gh i hi
  have b := hS.gh k hk
  rcases Nat.lt_or_gt_of_ne hne with h | h
  · have c := hS.hg i k h hk
    omega
  · have c := hS.hg k i h hi
    omega
theorem St.put1 {G : Gst} {w : World} {B : Nat} {o : Outs} {vo vw : Value} (hS : St G w B o vo vw) {k i : Nat} (hk : k < o.m) (v : Int) :
    Pt G (w.setCell ⟨o.g k, i, none⟩ (.int .i64 v)) B vo o.m (sls o.g o.n o.m) vw o.m (sls o.h o.n o.m) := hS.pt.setRow (hS.rg k hk) (hS.lo k hk) (hS.gx k hk).1 _
theorem St.put {G : Gst} {w : World} {B : Nat} {o : Outs} {vo vw : Value} (hS : St G w B o vo vw) {k i : Nat} (hk : k < o.m) (v : Int) :
    St G ((w.setCell ⟨o.g k, i, none⟩ (.int .i64 v)).setCell ⟨o.h k, i, none⟩ (.int .i64 v)) B (o.put k i v) vo vw := by
  have hgh := hS.gh k hk
  have hlo := hS.lo k hk
  have hrh : (w.setCell ⟨o.g k, i, none⟩ (.int .i64 v)).rowIs (o.h k) 3 (o.n k) (fun j => .int .i64 (o.F k j)) := (hS.rh k hk).setOther (by show o.h k ≠ o.g k; omega) _
  refine ⟨(hS.put1 hk v).setRow hrh (by omega) (hS.gx k hk).2 _, ?_, ?_, hS.pos, hS.lo, hS.gh, hS.hg, hS.gx⟩
  · intro a ha
    by_cases e : a = k
    · subst e
      refine World.rowIs.congr ((World.rowIs.set (hS.rg a hk) i (.int .i64 v)).setOther (by show o.g a ≠ o.h a; omega) _) (fun j _ => ?_)
      simp only [Outs.put, if_true]
      by_cases e2 : j = i <;> simp [e2]
    · obtain ⟨n1, n2, n3, n4⟩ := hS.order ha hk e
      refine World.rowIs.congr (((hS.rg a ha).setOther (by show o.g a ≠ o.g k; exact n1) _).setOther (by show o.g a ≠ o.h k; exact n3) _) (fun j _ => ?_)
      simp only [Outs.put, e, if_false]
  · intro a ha
    by_cases e : a = k
    · subst e
      refine World.rowIs.congr (World.rowIs.set hrh i (.int .i64 v)) (fun j _ => ?_)
      simp only [Outs.put, if_true]
      by_cases e2 : j = i <;> simp [e2]
    · obtain ⟨n1, n2, n3, n4⟩ := hS.order ha hk e
      refine World.rowIs.congr (((hS.rh a ha).setOther (by show o.h a ≠ o.g k; exact n4) _).setOther (by show o.h a ≠ o.h k; exact n2) _) (fun j _ => ?_)
      simp only [Outs.put, e, if_false]

/-- pick, its answer told ahead of the world -/
theorem pick_fix (c : Int) (n : Nat) (h1 : -9223372036854775808 ≤ c) (h2 : c ≤ 9223372036854775807) (hn : 1 ≤ n) (hn2 : n ≤ 100000000) :
    ∃ i : Nat, i < n ∧ ∀ w, Calls Tryd.prog 18 #[.int .i64 c, .int .i64 n] w fun e w' => e = .returned (.int .i64 i) ∧ w' = w := by
  by_cases h : c < 0
  · obtain ⟨i, hi, he⟩ := pick_nat (x := -(c + 1)) hn
    have he' := (pick_neg (n := n) h).trans he
    have HE : Hid (-(c + 1).tmod (n : Int) = i) := he'
    clear he he'
    refine ⟨i, hi, fun w => ?_⟩
    go_enter Tryd.func18, Tryd.ntmps18
    go_wp2
    go_ret
    exact ⟨ret_int HE.out, rfl⟩
  · obtain ⟨i, hi, he⟩ := pick_nat (x := c) hn
    have HE : Hid (c % (n : Int) = i) := he
    clear he
    refine ⟨i, hi, fun w => ?_⟩
    go_enter Tryd.func18, Tryd.ntmps18
    go_wp2
    go_ret
    exact ⟨ret_int HE.out, rfl⟩

end Go.Proofs.YtmebcdpdpcpnmabDoor

/- Plain mathematics of the document's market: commands, read. -/
namespace Mk

/-- byte k of a text -/
def bt (s : ByteArray) (k : Nat) : Nat := if h : k < s.size then s[k].toNat else 0
theorem bt_at {s : ByteArray} {k : Nat} (h : k < s.size) : s[k].toNat = bt s k := by unfold bt; rw [dif_pos h]
theorem bt_lt (s : ByteArray) (k : Nat) : bt s k < 256 := by
  unfold bt
  split
  · exact UInt8.toNat_lt _
  · omega

def isD (s : ByteArray) (j : Nat) : Bool := decide (48 ≤ bt s j) && decide (bt s j ≤ 57)
def digs (s : ByteArray) : Nat → Bool
  | 0 => true
  | k + 1 => digs s k && isD s k
/-- the number that the first k bytes tell -/
def numTo (s : ByteArray) : Nat → Nat
  | 0 => 0
  | k + 1 => numTo s k * 10 + (bt s k - 48)
theorem numTo_lt {s : ByteArray} : ∀ {k : Nat}, digs s k = true → numTo s k < 10 ^ k
  | 0, _ => by simp [numTo]
  | k + 1, h => by
    simp only [digs, isD, Bool.and_eq_true, decide_eq_true_eq] at h
    have := numTo_lt h.1
    simp only [numTo, Nat.pow_succ]
    omega
/-- is the text a number of at most four digits, without noughts ahead? -/
def numOk (s : ByteArray) : Bool := decide (1 ≤ s.size) && decide (s.size ≤ 4) && !(decide (bt s 0 = 48) && decide (1 < s.size)) && digs s s.size
def numV (s : ByteArray) : Nat := if numOk s then numTo s s.size else 0
def numB (s : ByteArray) (lo hi : Nat) : Bool := numOk s && decide (lo ≤ numV s) && decide (numV s ≤ hi)
theorem digs_no {s : ByteArray} {j : Nat} (h : isD s j = false) : ∀ {k : Nat}, j < k → digs s k = false
  | 0, hk => by omega
  | k + 1, hk => by
    simp only [digs]
    by_cases e : j = k
    · subst e; rw [h, Bool.and_false]
    · rw [digs_no h (by omega), Bool.false_and]
theorem numOk_no {s : ByteArray} (h : s.size = 0 ∨ 4 < s.size ∨ bt s 0 = 48 ∧ 1 < s.size ∨ digs s s.size = false) : numOk s = false := by
  unfold numOk
  rcases h with h | h | h | h
  · have : decide (1 ≤ s.size) = false := by rw [decide_eq_false_iff_not]; omega
    rw [this]; rfl
  · have : decide (s.size ≤ 4) = false := by rw [decide_eq_false_iff_not]; omega
    rw [this]; simp
  · simp [h.1, h.2]
  · rw [h, Bool.and_false]
theorem numOk_yes {s : ByteArray} (h1 : 1 ≤ s.size) (h2 : s.size ≤ 4) (h3 : ¬ (bt s 0 = 48 ∧ 1 < s.size)) (h4 : digs s s.size = true) : numOk s = true := by
  unfold numOk
  rw [h4]
  have : (decide (bt s 0 = 48) && decide (1 < s.size)) = false := by
    rw [← Bool.not_eq_true, Bool.and_eq_true, decide_eq_true_eq, decide_eq_true_eq]; exact h3
  rw [this]
  simp [h1, h2]
theorem numV_le (s : ByteArray) : numV s ≤ 9999 := by
  unfold numV
  split
  · rename_i h
    simp only [numOk, Bool.and_eq_true, decide_eq_true_eq] at h
    have h1 := numTo_lt h.2
    have h2 : 10 ^ s.size ≤ 10 ^ 4 := Nat.pow_le_pow_right (by omega) h.1.1.2
    omega
  · omega

/-- the words of a text, up to byte k: those that are whole, and where the next one begins -/
def cutTo (s : ByteArray) : Nat → List ByteArray × Nat
  | 0 => ([], 0)
  | k + 1 => if bt s k = 32 then ((cutTo s k).1 ++ [s.extract (cutTo s k).2 k], k + 1) else cutTo s k
def words (s : ByteArray) : List ByteArray := (cutTo s s.size).1 ++ [s.extract (cutTo s s.size).2 s.size]
theorem cutTo_le (s : ByteArray) : ∀ k, (cutTo s k).2 ≤ k ∧ (cutTo s k).1.length ≤ k
  | 0 => by simp [cutTo]
  | k + 1 => by
    have := cutTo_le s k
    simp only [cutTo]
    split
    · simp; omega
    · omega
theorem cutTo_yes {s : ByteArray} {k : Nat} (h : bt s k = 32) : cutTo s (k + 1) = ((cutTo s k).1 ++ [s.extract (cutTo s k).2 k], k + 1) := if_pos h
theorem cutTo_no {s : ByteArray} {k : Nat} (h : ¬ bt s k = 32) : cutTo s (k + 1) = cutTo s k := if_neg h

end Mk

/- Plain mathematics of the document's market: the words of commands. -/
namespace Mk

inductive Wd where
  | pay
  | draw
  | bring
  | fetch
  | buy
  | sell
  | drop
  | mode
  | close

/-- the text of a word -/
def Wd.text : Wd → ByteArray
  | .pay => ⟨#[112, 97, 121]⟩
  | .draw => ⟨#[100, 114, 97, 119]⟩
  | .bring => ⟨#[98, 114, 105, 110, 103]⟩
  | .fetch => ⟨#[102, 101, 116, 99, 104]⟩
  | .buy => ⟨#[98, 117, 121]⟩
  | .sell => ⟨#[115, 101, 108, 108]⟩
  | .drop => ⟨#[100, 114, 111, 112]⟩
  | .mode => ⟨#[109, 111, 100, 101]⟩
  | .close => ⟨#[99, 108, 111, 115, 101]⟩
/-- the least and the greatest of the numbers that belong to a word -/
def Wd.lo : Wd → List Nat
  | .pay => [1]
  | .draw => [1]
  | .bring => [0, 1]
  | .fetch => [0, 1]
  | .buy => [0, 1, 1]
  | .sell => [0, 1, 1]
  | .drop => [0, 0]
  | .mode => [0]
  | .close => [0]
def Wd.hi : Wd → List Nat
  | .pay => [9999]
  | .draw => [9999]
  | .bring => [1, 999]
  | .fetch => [1, 999]
  | .buy => [1, 99, 20]
  | .sell => [1, 99, 20]
  | .drop => [1, 11]
  | .mode => [1]
  | .close => [1]

def isW (s : ByteArray) (d : Wd) : Bool := s.toList == d.text.toList
/-- the word that a text is -/
def wd (s : ByteArray) : Option Wd :=
  if isW s .pay then some .pay else
  if isW s .draw then some .draw else
  if isW s .bring then some .bring else
  if isW s .fetch then some .fetch else
  if isW s .buy then some .buy else
  if isW s .sell then some .sell else
  if isW s .drop then some .drop else
  if isW s .mode then some .mode else
  if isW s .close then some .close else
  none
theorem bytes_eq {a b : ByteArray} (h : a.data.toList = b.data.toList) : a = b := by
  cases a; cases b
  simp at h
  rw [h]
theorem isW_no {s : ByteArray} {d : Wd} (h : wd s = none) : isW s d = false := by
  unfold wd at h
  by_cases hpay : isW s .pay = true
  · rw [if_pos hpay] at h; cases h
  rw [if_neg hpay] at h
  by_cases hdraw : isW s .draw = true
  · rw [if_pos hdraw] at h; cases h
  rw [if_neg hdraw] at h
  by_cases hbring : isW s .bring = true
  · rw [if_pos hbring] at h; cases h
  rw [if_neg hbring] at h
  by_cases hfetch : isW s .fetch = true
  · rw [if_pos hfetch] at h; cases h
  rw [if_neg hfetch] at h
  by_cases hbuy : isW s .buy = true
  · rw [if_pos hbuy] at h; cases h
  rw [if_neg hbuy] at h
  by_cases hsell : isW s .sell = true
  · rw [if_pos hsell] at h; cases h
  rw [if_neg hsell] at h
  by_cases hdrop : isW s .drop = true
  · rw [if_pos hdrop] at h; cases h
  rw [if_neg hdrop] at h
  by_cases hmode : isW s .mode = true
  · rw [if_pos hmode] at h; cases h
  rw [if_neg hmode] at h
  by_cases hclose : isW s .close = true
  · rw [if_pos hclose] at h; cases h
  rw [if_neg hclose] at h
  cases d
  · exact Bool.eq_false_iff.2 hpay
  · exact Bool.eq_false_iff.2 hdraw
  · exact Bool.eq_false_iff.2 hbring
  · exact Bool.eq_false_iff.2 hfetch
  · exact Bool.eq_false_iff.2 hbuy
  · exact Bool.eq_false_iff.2 hsell
  · exact Bool.eq_false_iff.2 hdrop
  · exact Bool.eq_false_iff.2 hmode
  · exact Bool.eq_false_iff.2 hclose
theorem lo_hi (d : Wd) : d.lo.length = d.hi.length ∧ d.lo.length ≤ 3 := by cases d <;> decide

end Mk
