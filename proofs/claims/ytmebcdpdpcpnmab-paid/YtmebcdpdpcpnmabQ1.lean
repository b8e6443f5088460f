import Derived.Test.YtmebcdpdpcpnmabE1
import Derived.Test.YtmebcdpdpcpnmabM4
namespace Go.Proofs.Ytmebcdpdpcpnmab
open Go.RowKit

/-- one of a side whose price is within p -/
def Mk.wi (l : List Mk.Ord) (sell : Bool) (p : Int) (j : Nat) : Bool := Mk.ms l sell j && Mk.willB (Mk.sl l j) (Mk.pr l j) p
theorem Mk.wi_at {l : List Mk.Ord} {j : Nat} (h : j < l.length) (sell : Bool) (p : Int) : Mk.wi l sell p j = (Mk.willB l[j].sell l[j].price p && (l[j].sell == sell)) := by
  unfold Mk.wi Mk.ms; rw [Mk.sl_at h, Mk.pr_at h, Bool.and_comm]
theorem Mk.wi_most {l : List Mk.Ord} (hp : Mk.okP l) (p : Int) : ¬ (Mk.mcK l + 1 < Mk.cnt (Mk.wi l false p) l.length ∧ Mk.mcK l + 1 < Mk.cnt (Mk.wi l true p) l.length) := by
  have e1 : Mk.cnt (Mk.wi l false p) l.length = Mk.cnt (fun j => Mk.ms l false j && decide (p ≤ Mk.pr l j)) l.length := Mk.cnt_congr (fun j _ => by
    unfold Mk.wi
    cases h : Mk.ms l false j with
    | false => rfl
    | true => rw [Mk.ms_iff.1 h]; rfl)
  have e2 : Mk.cnt (Mk.wi l true p) l.length = Mk.cnt (fun j => Mk.ms l true j && decide (Mk.pr l j ≤ p)) l.length := Mk.cnt_congr (fun j _ => by
    unfold Mk.wi
    cases h : Mk.ms l true j with
    | false => rfl
    | true => rw [Mk.ms_iff.1 h]; rfl)
  rw [e1, e2]
  exact Mk.mc_most hp p

set_option maxRecDepth 100000 in
set_option maxHeartbeats 1000000 in
theorem within_any (a : Option Addr) (cap : Nat) (l : List Mk.Ord) (sell : Bool) (p : Int) (w : World) (h12 : l.length ≤ 12) (hR : Rd w a l) :
    Calls Try.prog 7 #[.slice a l.length cap, .bool sell, .int .i64 p] w fun e w' => e = .returned (.int .i64 (Mk.cnt (Mk.wi l sell p) l.length : Int)) ∧ Below w.heap.size w w' := by
  have HR : Hid (Rd w a l) := hR
  clear hR
  go_enter Try.func7, Try.ntmps7
  go_wp2
  go_loopw [7, 8] (fun n i wr => ∃ k : Nat, k ≤ l.length ∧ i = .int .i64 k ∧ n = .int .i64 (Mk.cnt (Mk.wi l sell p) k : Int) ∧ Below w.heap.size w wr) (fun _ i _ => l.length - (intOf i).toNat)
  case atStart => exact ⟨0, Nat.zero_le _, rfl, rfl, Below.refl _ _⟩
  case round =>
    obtain ⟨k, hk, rfl, rfl, hb⟩ := hrel
    have Hb : Hid (Below w.heap.size w wr) := hb
    clear hb
    have cb := Mk.cnt_le (Mk.wi l sell p) k
    by_cases hlt : k < l.length
    · rcases HR.out with h | ⟨b, off, rfl, hA⟩
      · rw [h] at hlt; simp at hlt
      obtain ⟨c0, c1, c2⟩ := At.below hA Hb.out k hlt
      clear hA
      have hbl := blk_lt c0
      have hlt' : (k : Int) < (l.length : Int) := by omega
      have hd := Mk.wi_at hlt sell p
      rcases Bool.eq_false_or_eq_true (Mk.willB l[k].sell l[k].price p) with hw | hw <;> rcases Bool.eq_false_or_eq_true (l[k].sell == sell) with hs | hs <;> rw [hw, hs] at hd <;> simp only [Bool.and_true, Bool.and_false] at hd
      all_goals
        have HD := (show Hid _ from hd)
        clear hd
        go_wp2_with (go_at_call 14; refine (lwilling_any _ _ _ _ _).mono ?_; rintro e w' ⟨rfl, rfl⟩)
        go_roundw
        case rel =>
          refine ⟨k + 1, by omega, by go_num, ?_, Hb.out.alloc Hb.out.size _⟩
          first
            | rw [Mk.cnt_yes HD.out]
            | rw [Mk.cnt_no HD.out]
        case measure => simp [intOf]; omega
    · obtain rfl : k = l.length := by omega
      go_wp2
      go_ret
      exact ⟨rfl, Hb.out⟩

theorem got_any (a : Option Addr) (cap : Nat) (l : List Mk.Ord) (g : Nat) (F : Nat → Int) (sell : Bool) (w : World) (h12 : l.length ≤ 12) (hF : ∀ i, 0 ≤ F i ∧ F i ≤ 5000) (hR : Rd w a l) (hrow : w.rowIs g 3 l.length (fun i => .int .i64 (F i))) :
    Calls Try.prog 6 #[.slice a l.length cap, .slice (some ⟨g, 0, none⟩) l.length l.length, .bool sell] w fun e w' => e = .returned (.int .i64 (Mk.sideSum l sell F)) ∧ w' = w := by
  rcases hR with rfl | ⟨b, off, rfl, hR⟩
  · exact got_nil a cap _ _ _ sell w
  · exact got_some b off cap l g F sell w h12 hF hR hrow

set_option maxRecDepth 100000 in
set_option maxHeartbeats 1000000 in
theorem paid_bad (a : Option Addr) (cap : Nat) (l : List Mk.Ord) (w : World) (hv : Mk.validB 1 l = false) (hR : Rd w a l) :
    Calls Try.prog 3 #[.slice a l.length cap] w fun e w' => e = .returned (.bool true) ∧ Below w.heap.size w w' := by
  have HR : Hid (Rd w a l) := hR
  clear hR
  have hnil := fun (w : World) (a : Option Addr) (n c : Nat) => Lib.run_eql_slice_nil (P := Try.prog) w 24 3 a n c 0 0 Try.underlying24
  go_enter Try.func3, Try.ntmps3
  go_wp2_with (first | (go_at_call 4; refine (valid_any a cap l _ _ HR.out).mono ?_; rintro e w1 ⟨rfl, hw1⟩; obtain rfl := hw1.symm) | (go_at_call 5; refine (mcafee_bad a cap l _ hv HR.out).mono ?_; rintro e w1 ⟨rfl, hb1⟩))
  go_ret
  exact ⟨rfl, by assumption⟩

set_option maxRecDepth 100000 in
set_option maxHeartbeats 2000000 in
theorem paid_ok (a : Option Addr) (cap : Nat) (l : List Mk.Ord) (w : World) (hv : Mk.validB 1 l = true) (hR : Rd w a l) :
    Calls Try.prog 3 #[.slice a l.length cap] w fun e w' => e = .returned (.bool true) ∧ Below w.heap.size w w' := by
  have HR : Hid (Rd w a l) := hR
  have HV : Hid (Mk.validB 1 l = true) := hv
  have h12 := (Mk.ok_of_valid hv).1
  have hp := Mk.okP_of hv
  have HP : Hid (Mk.okP l) := hp
  have hpg : ¬ Mk.mcPay l < Mk.mcGet l := by have := Mk.mc_pays hp; omega
  clear hv hR hp
  go_enter Try.func3, Try.ntmps3
  go_wp2_with fail
  refine (valid_any a cap l _ _ HR.out).mono ?_
  rw [HV.out]
  rintro e w1 ⟨rfl, hw1⟩
  obtain rfl := hw1.symm
  go_wp2_with fail
  refine (mcafee_any a cap l _ HV.out HR.out).mono ?_
  rintro e w1 ⟨g, rfl, hg, hb1, hrow⟩
  have Hb1 : Hid (Below w.heap.size w w1) := hb1
  have HRow : Hid (w1.rowIs g 3 l.length (fun i => .int .i64 (Mk.mcF l i))) := hrow
  clear hb1 hrow hg
  go_wp2
  go_loopw [8] (fun i wr => ∃ k : Nat, k ≤ l.length ∧ i = .int .i64 k ∧ Below w1.heap.size w1 wr) (fun i _ => l.length - (intOf i).toNat)
  case atStart => exact ⟨0, Nat.zero_le _, rfl, Below.refl _ _⟩
  case round =>
    obtain ⟨k, hk, rfl, hb⟩ := hrel
    have Hb : Hid (Below w1.heap.size w1 wr) := hb
    have HBw : Hid (Below w.heap.size w wr) := Hb1.out.trans (hb.mono Hb1.out.size)
    have HRw : Hid (wr.rowIs g 3 l.length (fun i => .int .i64 (Mk.mcF l i))) := row_below HRow.out hb (World.rowIs.lt HRow.out)
    have hgl : g < wr.heap.size := World.rowIs.lt HRw.out
    clear hb
    by_cases hlt : k < l.length
    · rcases HR.out with h | ⟨b, off, rfl, hA⟩
      · rw [h] at hlt; simp at hlt
      obtain ⟨c0, c1, c2⟩ := At.below hA HBw.out k hlt
      clear hA
      have hbl := blk_lt c0
      have hlt' : (k : Int) < (l.length : Int) := by omega
      have rc := World.rowIs.cell HRw.out hlt
      have HSl := Mk.sl_at (l := l) hlt
      have HPr := Mk.pr_at (l := l) hlt
      by_cases hr : Mk.rk l k < Mk.mcK l
      · have hF : Mk.mcF l k = 1 := by unfold Mk.mcF; rw [if_pos hr]
        rw [hF] at rc
        rcases Bool.eq_false_or_eq_true l[k].sell with hs | hs
        · have hle := Mk.gets HP.out hlt (HSl.trans hs) hr
          rw [HPr] at hle
          rw [hs] at c0
          clear hs hF HSl HPr
          go_wp2
          go_roundw
          case rel => exact ⟨k + 1, by omega, by go_num, Hb.out.alloc Hb.out.size _⟩
          case measure => simp [intOf]; omega
        · have hle := Mk.pays HP.out hlt (HSl.trans hs) hr
          rw [HPr] at hle
          rw [hs] at c0
          clear hs hF HSl HPr
          go_wp2
          go_roundw
          case rel => exact ⟨k + 1, by omega, by go_num, Hb.out.alloc Hb.out.size _⟩
          case measure => simp [intOf]; omega
      · have hF : Mk.mcF l k = 0 := by unfold Mk.mcF; rw [if_neg hr]
        rw [hF] at rc
        clear hF HSl HPr
        go_wp2
        go_roundw
        case rel => exact ⟨k + 1, by omega, by go_num, Hb.out.alloc Hb.out.size _⟩
        case measure => simp [intOf]; omega
    · have hge : ¬ (k : Int) < (l.length : Int) := by omega
      clear hk hlt
      have s0 := Mk.mc_side HP.out false
      have s1 := Mk.mc_side HP.out true
      have HG : Hid (∀ (sell : Bool), Calls Try.prog 6 #[.slice a l.length cap, .slice (some ⟨g, 0, none⟩) l.length l.length, .bool sell] wr fun e w' => e = .returned (.int .i64 (Mk.mcK l : Int)) ∧ w' = wr) := by
        intro sell
        have h := got_any a cap l g (Mk.mcF l) sell wr h12 (fun i => by have := Mk.mcF_bd l i; omega) (HR.out.below HBw.out) HRw.out
        cases sell
        · rw [s0] at h; exact h
        · rw [s1] at h; exact h
      clear s0 s1
      have hK : Mk.mcK l ≤ l.length := Nat.le_trans (Mk.mcK_le HP.out false) (Mk.cnt_le _ _)
      obtain ⟨wo, hwo⟩ : ∃ wo : World, wo = wr := ⟨_, rfl⟩
      subst hwo
      by_cases h0 : Mk.mcK l = 0
      · have h0' : ((Mk.mcK l : Int) == 0) = true := by simp; omega
        have p0 : Mk.mcPay l = 0 := by unfold Mk.mcPay; rw [if_pos h0]
        have g0 : (Mk.mcGet l != 0) = false := by unfold Mk.mcGet; rw [if_pos h0]; rfl
        have g1 : Mk.mcGet l = 0 := by unfold Mk.mcGet; rw [if_pos h0]
        clear h0
        go_wp2_with fail
        refine (HG.out false).mono ?_
        rintro e w2 ⟨rfl, hw2⟩
        obtain rfl := hw2.symm
        go_wp2_with fail
        refine (HG.out true).mono ?_
        rintro e w2 ⟨rfl, hw2⟩
        obtain rfl := hw2.symm
        go_wp2
        go_loopw [12] (fun i wr => ∃ k : Nat, k ≤ 99 ∧ i = .int .i64 ((k : Int) + 1) ∧ Below w.heap.size w wr) (fun i _ => 100 - (intOf i).toNat)
        case atStart => exact ⟨0, by omega, rfl, HBw.out⟩
        case round =>
          obtain ⟨k, hk, rfl, hb⟩ := hrel
          have Hc : Hid (Below w.heap.size w wr) := hb
          clear hb
          by_cases hlt : k < 99
          · have hlt' : ((k : Int) + 1) ≤ 99 := by omega
            have hmost := Mk.wi_most HP.out ((k : Int) + 1)
            have q1 := Mk.cnt_le (Mk.wi l false ((k : Int) + 1)) l.length
            have q2 := Mk.cnt_le (Mk.wi l true ((k : Int) + 1)) l.length
            by_cases hb1 : Mk.mcK l + 1 < Mk.cnt (Mk.wi l false ((k : Int) + 1)) l.length
            · have hb2 : ¬ (Mk.mcK l : Int) + 1 < (Mk.cnt (Mk.wi l true ((k : Int) + 1)) l.length : Int) := by omega
              have hb1' : (Mk.mcK l : Int) + 1 < (Mk.cnt (Mk.wi l false ((k : Int) + 1)) l.length : Int) := by omega
              clear hmost hb1
              go_wp2_with fail
              refine (within_any a cap l false _ _ h12 (HR.out.below Hc.out)).mono ?_
              rintro e w3 ⟨rfl, hb3⟩
              have Hb3 : Hid (Below w.heap.size w w3) := Hc.out.trans (hb3.mono Hc.out.size)
              clear hb3
              go_wp2_with fail
              refine (within_any a cap l true _ _ h12 (HR.out.below Hb3.out)).mono ?_
              rintro e w4 ⟨rfl, hb4⟩
              have Hb4 : Hid (Below w.heap.size w w4) := Hb3.out.trans (hb4.mono Hb3.out.size)
              clear hb4
              go_wp2
              go_roundw
              case rel => exact ⟨k + 1, by omega, by go_num, Hb4.out⟩
              case measure => simp [intOf]; omega
            · have hb1' : ¬ (Mk.mcK l : Int) + 1 < (Mk.cnt (Mk.wi l false ((k : Int) + 1)) l.length : Int) := by omega
              clear hmost hb1
              go_wp2_with fail
              refine (within_any a cap l false _ _ h12 (HR.out.below Hc.out)).mono ?_
              rintro e w3 ⟨rfl, hb3⟩
              have Hb3 : Hid (Below w.heap.size w w3) := Hc.out.trans (hb3.mono Hc.out.size)
              clear hb3
              go_wp2_with fail
              refine (within_any a cap l true _ _ h12 (HR.out.below Hb3.out)).mono ?_
              rintro e w4 ⟨rfl, hb4⟩
              have Hb4 : Hid (Below w.heap.size w w4) := Hb3.out.trans (hb4.mono Hb3.out.size)
              clear hb4
              go_wp2
              go_roundw
              case rel => exact ⟨k + 1, by omega, by go_num, Hb4.out⟩
              case measure => simp [intOf]; omega
          · go_wp2
            go_ret
            exact ⟨rfl, Hc.out⟩
      · have h0' : ((Mk.mcK l : Int) == 0) = false := by simp; omega
        clear h0
        go_wp2_with fail
        refine (HG.out false).mono ?_
        rintro e w2 ⟨rfl, hw2⟩
        obtain rfl := hw2.symm
        go_wp2_with fail
        refine (HG.out true).mono ?_
        rintro e w2 ⟨rfl, hw2⟩
        obtain rfl := hw2.symm
        go_wp2
        go_loopw [12] (fun i wr => ∃ k : Nat, k ≤ 99 ∧ i = .int .i64 ((k : Int) + 1) ∧ Below w.heap.size w wr) (fun i _ => 100 - (intOf i).toNat)
        case atStart => exact ⟨0, by omega, rfl, HBw.out⟩
        case round =>
          obtain ⟨k, hk, rfl, hb⟩ := hrel
          have Hc : Hid (Below w.heap.size w wr) := hb
          clear hb
          by_cases hlt : k < 99
          · have hlt' : ((k : Int) + 1) ≤ 99 := by omega
            have hmost := Mk.wi_most HP.out ((k : Int) + 1)
            have q1 := Mk.cnt_le (Mk.wi l false ((k : Int) + 1)) l.length
            have q2 := Mk.cnt_le (Mk.wi l true ((k : Int) + 1)) l.length
            by_cases hb1 : Mk.mcK l + 1 < Mk.cnt (Mk.wi l false ((k : Int) + 1)) l.length
            · have hb2 : ¬ (Mk.mcK l : Int) + 1 < (Mk.cnt (Mk.wi l true ((k : Int) + 1)) l.length : Int) := by omega
              have hb1' : (Mk.mcK l : Int) + 1 < (Mk.cnt (Mk.wi l false ((k : Int) + 1)) l.length : Int) := by omega
              clear hmost hb1
              go_wp2_with fail
              refine (within_any a cap l false _ _ h12 (HR.out.below Hc.out)).mono ?_
              rintro e w3 ⟨rfl, hb3⟩
              have Hb3 : Hid (Below w.heap.size w w3) := Hc.out.trans (hb3.mono Hc.out.size)
              clear hb3
              go_wp2_with fail
              refine (within_any a cap l true _ _ h12 (HR.out.below Hb3.out)).mono ?_
              rintro e w4 ⟨rfl, hb4⟩
              have Hb4 : Hid (Below w.heap.size w w4) := Hb3.out.trans (hb4.mono Hb3.out.size)
              clear hb4
              go_wp2
              go_roundw
              case rel => exact ⟨k + 1, by omega, by go_num, Hb4.out⟩
              case measure => simp [intOf]; omega
            · have hb1' : ¬ (Mk.mcK l : Int) + 1 < (Mk.cnt (Mk.wi l false ((k : Int) + 1)) l.length : Int) := by omega
              clear hmost hb1
              go_wp2_with fail
              refine (within_any a cap l false _ _ h12 (HR.out.below Hc.out)).mono ?_
              rintro e w3 ⟨rfl, hb3⟩
              have Hb3 : Hid (Below w.heap.size w w3) := Hc.out.trans (hb3.mono Hc.out.size)
              clear hb3
              go_wp2_with fail
              refine (within_any a cap l true _ _ h12 (HR.out.below Hb3.out)).mono ?_
              rintro e w4 ⟨rfl, hb4⟩
              have Hb4 : Hid (Below w.heap.size w w4) := Hb3.out.trans (hb4.mono Hb3.out.size)
              clear hb4
              go_wp2
              go_roundw
              case rel => exact ⟨k + 1, by omega, by go_num, Hb4.out⟩
              case measure => simp [intOf]; omega
          · go_wp2
            go_ret
            exact ⟨rfl, Hc.out⟩

theorem paid_law (a : Option Addr) (cap : Nat) (l : List Mk.Ord) (w : World) (hR : Rd w a l) :
    Calls Try.prog 3 #[.slice a l.length cap] w fun e w' => e = .returned (.bool true) ∧ Below w.heap.size w w' := by
  rcases Bool.eq_false_or_eq_true (Mk.validB 1 l) with hv | hv
  · exact paid_ok a cap l w hv hR
  · exact paid_bad a cap l w hv hR

end Go.Proofs.Ytmebcdpdpcpnmab
