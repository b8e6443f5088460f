import Derived.Test.YtmebcdpdpcpnmaaGreatDoorJ17
import Derived.Test.YtmebcdpdpcpnmaaGreatDoorJ4
import Derived.Deep.RegionWith
namespace Go.Proofs.YtmebcdpdpcpnmaaGreatDoor
open Go.RowKit

/-- pairAt's memory at a round's head: its result's block, its pair's block -/
structure Pa (w wr : World) (x y : Int) : Prop where
  below : Below w.heap.size w wr
  size : w.heap.size + 1 < wr.heap.size
  c0 : wr.cell? ⟨w.heap.size + 1, 0, none⟩ = some (.int .i64 x)
  c1 : wr.cell? ⟨w.heap.size + 1, 1, none⟩ = some (.int .i64 y)
  f0 : wr.frozen? ⟨w.heap.size + 1, 0, none⟩ = false
  f1 : wr.frozen? ⟨w.heap.size + 1, 1, none⟩ = false
  r0 : wr.cell? ⟨w.heap.size, 0, none⟩ = some (.int .i64 0)
  r1 : wr.cell? ⟨w.heap.size, 1, none⟩ = some (.int .i64 0)
  g0 : wr.frozen? ⟨w.heap.size, 0, none⟩ = false
  g1 : wr.frozen? ⟨w.heap.size, 1, none⟩ = false

theorem Pa.alloc {w wr : World} {x y : Int} (h : Pa w wr x y) (o : Obj) : Pa w (wr.alloc o) x y := by
  have hs := h.size
  exact ⟨h.below.alloc (by omega) o, by simp; omega, cell_al h.c0, cell_al h.c1, froz_al hs h.f0, froz_al hs h.f1, cell_al h.r0, cell_al h.r1, froz_al (by omega) h.g0, froz_al (by omega) h.g1⟩
theorem Pa.setX {w wr : World} {x y : Int} (h : Pa w wr x y) (v : Int) : Pa w (wr.setCell ⟨w.heap.size + 1, 0, none⟩ (.int .i64 v)) v y :=
  ⟨h.below.setCell (by simp) _, by simpa using h.size, cell_set_same h.c0, cell_set_ne (by omega) h.c1, by simpa using h.f0, by simpa using h.f1, cell_set_ne (by omega) h.r0, cell_set_ne (by omega) h.r1, by simpa using h.g0, by simpa using h.g1⟩
theorem Pa.setY {w wr : World} {x y : Int} (h : Pa w wr x y) (v : Int) : Pa w (wr.setCell ⟨w.heap.size + 1, 1, none⟩ (.int .i64 v)) x v :=
  ⟨h.below.setCell (by simp) _, by simpa using h.size, cell_set_ne (by omega) h.c0, cell_set_same h.c1, by simpa using h.f0, by simpa using h.f1, cell_set_ne (by omega) h.r0, cell_set_ne (by omega) h.r1, by simpa using h.g0, by simpa using h.g1⟩

set_option maxRecDepth 100000 in
set_option maxHeartbeats 2000000 in
theorem pairAt_some (b off cap g : Nat) (l : List Mk.Ord) (m : Int) (w : World) (h12 : l.length ≤ 12) (hR : At w b off l) (hrow : w.rowIs g 3 l.length (fun j => .int .i64 (Mk.rk l j : Int))) :
    Calls Tryz.prog 69 #[.slice (some ⟨b, off, none⟩) l.length cap, .slice (some ⟨g, 0, none⟩) l.length l.length, .int .i64 m] w fun e w' =>
      e = .returned (.agg #[.int .i64 (Mk.lastTo l false m 0 l.length), .int .i64 (Mk.lastTo l true m 100 l.length)]) ∧ Below w.heap.size w w' := by
  have HR : Hid (At w b off l) := hR
  have HRow : Hid (w.rowIs g 3 l.length (fun j => .int .i64 (Mk.rk l j : Int))) := hrow
  clear hR hrow
  go_enter Tryz.func69, Tryz.ntmps69
  go_wp2
  go_loopw [13] (fun i wr => ∃ k : Nat, k ≤ l.length ∧ i = .int .i64 k ∧ Pa w wr (Mk.lastTo l false m 0 k) (Mk.lastTo l true m 100 k)) (fun i _ => l.length - (intOf i).toNat)
  case atStart =>
    refine ⟨0, Nat.zero_le _, rfl, ?_⟩
    exact ⟨((Below.refl _ _).alloc (Nat.le_refl _) _).alloc (by simp) _, by simp, by simp [Mk.lastTo], by simp [Mk.lastTo], by simp [go_sem], by simp [go_sem], by simp, by simp, by simp [go_sem], by simp [go_sem]⟩
  case round =>
    obtain ⟨k, hk, rfl, hb⟩ := hrel
    have Hb : Hid (Pa w wr (Mk.lastTo l false m 0 k) (Mk.lastTo l true m 100 k)) := hb
    obtain ⟨_, hsz, e0, e1, f0, f1, r0, r1, g0, g1⟩ := hb
    have hsz' : w.heap.size < wr.heap.size := by omega
    have hgw : g < w.heap.size := World.rowIs.lt HRow.out
    have hgr : g < wr.heap.size := by omega
    by_cases hlt : k < l.length
    · obtain ⟨c0, c1, c2⟩ := At.below HR.out Hb.out.below k hlt
      have hbl := blk_lt c0
      have rc := World.rowIs.cell (row_below HRow.out Hb.out.below hgw) hlt
      have hlt' : (k : Int) < (l.length : Int) := by omega
      have hd : decide (l.length ≤ k) = false := by simp; omega
      have hd2 : ¬ l.length ≤ k := by omega
      have HSl : Hid (Mk.sl l k = l[k].sell) := Mk.sl_at hlt
      have HPr : Hid (Mk.pr l k = l[k].price) := Mk.pr_at hlt
      by_cases hm : (Mk.rk l k : Int) = m
      · have hm' : ((Mk.rk l k : Int) == m) = true := by simp [hm]
        have HM : Hid ((Mk.rk l k : Int) = m) := hm
        clear hm
        rcases Bool.eq_false_or_eq_true l[k].sell with hs | hs
        · have HY : Hid (Mk.lastTo l true m 100 (k + 1) = l[k].price) := (Mk.lastTo_yes (HSl.out.trans hs) HM.out).trans HPr.out
          have HX : Hid (Mk.lastTo l false m 0 (k + 1) = Mk.lastTo l false m 0 k) := Mk.lastTo_no (.inl (by rw [HSl.out, hs]; simp))
          rw [hs] at c0
          clear hs
          go_wp2
          go_roundw
          case rel => exact ⟨k + 1, by omega, by go_num, by rw [HX.out, HY.out]; exact (Hb.out.setY _).alloc _⟩
          case measure => simp [intOf]; omega
        · have HX : Hid (Mk.lastTo l false m 0 (k + 1) = l[k].price) := (Mk.lastTo_yes (HSl.out.trans hs) HM.out).trans HPr.out
          have HY : Hid (Mk.lastTo l true m 100 (k + 1) = Mk.lastTo l true m 100 k) := Mk.lastTo_no (.inl (by rw [HSl.out, hs]; simp))
          rw [hs] at c0
          clear hs
          go_wp2
          go_roundw
          case rel => exact ⟨k + 1, by omega, by go_num, by rw [HX.out, HY.out]; exact (Hb.out.setX _).alloc _⟩
          case measure => simp [intOf]; omega
      · have hm' : ((Mk.rk l k : Int) == m) = false := by simp [hm]
        have HX : Hid (Mk.lastTo l false m 0 (k + 1) = Mk.lastTo l false m 0 k) := Mk.lastTo_no (.inr hm)
        have HY : Hid (Mk.lastTo l true m 100 (k + 1) = Mk.lastTo l true m 100 k) := Mk.lastTo_no (.inr hm)
        clear hm
        go_wp2
        go_roundw
        case rel => exact ⟨k + 1, by omega, by go_num, by rw [HX.out, HY.out]; exact Hb.out.alloc _⟩
        case measure => simp [intOf]; omega
    · obtain rfl : k = l.length := by omega
      go_wp2
      refine bodyPost_ret (v := .agg #[.int .i64 (Mk.lastTo l false m 0 l.length), .int .i64 (Mk.lastTo l true m 100 l.length)]) ?_ rfl ⟨rfl, (Hb.out.below.setCell (by simp) _).setCell (by simp) _⟩
      have q1 := fun a b => cell_set_same (u := b) (cell_set_ne (b' := w.heap.size) (o' := 0) (u := a) (by omega) r1)
      have q0 := fun a b => cell_set_ne (b' := w.heap.size) (o' := 1) (u := b) (by omega) (cell_set_same (u := a) r0)
      simp [results, Tryz.results69, go_sem, q0, q1]
      try exact ⟨rfl, rfl⟩

set_option maxRecDepth 100000 in
set_option maxHeartbeats 1000000 in
theorem pairAt_nil (a : Option Addr) (cap : Nat) (a' : Option Addr) (n c : Nat) (m : Int) (w : World) :
    Calls Tryz.prog 69 #[.slice a 0 cap, .slice a' n c, .int .i64 m] w fun e w' => e = .returned (.agg #[.int .i64 0, .int .i64 100]) ∧ Below w.heap.size w w' := by
  go_enter Tryz.func69, Tryz.ntmps69
  go_wp2
  go_loop [13] (fun i => i = .int .i64 0) (fun i => 0)
  case atStart => rfl
  case round =>
    subst hrel
    go_wp2
    refine bodyPost_ret (v := .agg #[.int .i64 0, .int .i64 100]) ?_ rfl ⟨rfl, ?_⟩
    · simp [results, Tryz.results69, go_sem]
    · repeat (first | exact Below.refl _ _ | refine Below.alloc ?_ (by simp <;> omega) _ | refine Below.setCell ?_ (by simp) _)

theorem pairAt_any (a : Option Addr) (cap g : Nat) (l : List Mk.Ord) (m : Int) (w : World) (h12 : l.length ≤ 12) (hR : Rd w a l) (hrow : w.rowIs g 3 l.length (fun j => .int .i64 (Mk.rk l j : Int))) :
    Calls Tryz.prog 69 #[.slice a l.length cap, .slice (some ⟨g, 0, none⟩) l.length l.length, .int .i64 m] w fun e w' =>
      e = .returned (.agg #[.int .i64 (Mk.lastTo l false m 0 l.length), .int .i64 (Mk.lastTo l true m 100 l.length)]) ∧ Below w.heap.size w w' := by
  rcases hR with rfl | ⟨b, off, rfl, hR⟩
  · exact pairAt_nil a cap _ _ _ m w
  · exact pairAt_some b off cap g l m w h12 hR hrow
theorem pairAt_nat (a : Option Addr) (cap g : Nat) (l : List Mk.Ord) (m : Nat) (w : World) (h12 : l.length ≤ 12) (hR : Rd w a l) (hrow : w.rowIs g 3 l.length (fun j => .int .i64 (Mk.rk l j : Int))) :
    Calls Tryz.prog 69 #[.slice a l.length cap, .slice (some ⟨g, 0, none⟩) l.length l.length, .int .i64 m] w fun e w' =>
      e = .returned (.agg #[.int .i64 (Mk.pB l m), .int .i64 (Mk.pS l m)]) ∧ Below w.heap.size w w' := by
  have h := pairAt_any a cap g l m w h12 hR hrow
  rw [Mk.lastTo_all, Mk.lastTo_all, Mk.prAt_B, Mk.prAt_S] at h
  exact h

set_option maxRecDepth 100000 in
set_option maxHeartbeats 2000000 in
theorem countPairs_any (a : Option Addr) (cap g : Nat) (l : List Mk.Ord) (w : World) (hv : Mk.validB 20 l = true) (hR : Rd w a l) (hrow : w.rowIs g 3 l.length (fun j => .int .i64 (Mk.rk l j : Int))) :
    Calls Tryz.prog 68 #[.slice a l.length cap, .slice (some ⟨g, 0, none⟩) l.length l.length] w fun e w' =>
      e = .returned (.int .i64 (Mk.kk l : Int)) ∧ Below w.heap.size w w' := by
  have h12 := (Mk.ok_of_valid hv).1
  have HP : Hid (Mk.okP l) := Mk.okP_of hv
  have HR : Hid (Rd w a l) := hR
  have HRow : Hid (w.rowIs g 3 l.length (fun j => .int .i64 (Mk.rk l j : Int))) := hrow
  clear hR hrow hv
  go_enter Tryz.func68, Tryz.ntmps68
  go_wp2
  go_loopw [9] (fun i wr => ∃ k : Nat, k ≤ l.length ∧ i = .int .i64 k ∧ (∀ j, j < k → Mk.pS l j ≤ Mk.pB l j) ∧ Below w.heap.size w wr) (fun i _ => l.length - (intOf i).toNat)
  case atStart => exact ⟨0, Nat.zero_le _, rfl, fun j hj => by omega, Below.refl _ _⟩
  case round =>
    obtain ⟨k, hk, rfl, hall, hb⟩ := hrel
    have Hall : Hid (∀ j, j < k → Mk.pS l j ≤ Mk.pB l j) := hall
    have Hb : Hid (Below w.heap.size w wr) := hb
    clear hb hall
    by_cases hlt : k < l.length
    · have hlt' : (k : Int) < (l.length : Int) := by omega
      by_cases hc : Mk.pB l k < Mk.pS l k
      · have HK : Hid (Mk.kk l = k) := Mk.kk_first HP.out Hall.out (fun _ => hc) hk
        go_wp2_with fail
        refine (pairAt_nat a cap g l k _ h12 (HR.out.below Hb.out) (row_below HRow.out Hb.out (World.rowIs.lt HRow.out))).mono ?_
        rintro e w2 ⟨rfl, hb2⟩
        have Hb2 : Hid (Below w.heap.size w w2) := Hb.out.trans (hb2.mono Hb.out.size)
        clear hb2
        go_wp2
        go_ret
        exact ⟨by rw [HK.out]; rfl, Hb2.out.alloc Hb2.out.size _⟩
      · have HN : Hid (∀ j, j < k + 1 → Mk.pS l j ≤ Mk.pB l j) := fun j hj => by
          by_cases e : j = k
          · subst e; omega
          · exact Hall.out j (by omega)
        go_wp2_with fail
        refine (pairAt_nat a cap g l k _ h12 (HR.out.below Hb.out) (row_below HRow.out Hb.out (World.rowIs.lt HRow.out))).mono ?_
        rintro e w2 ⟨rfl, hb2⟩
        have Hb2 : Hid (Below w.heap.size w w2) := Hb.out.trans (hb2.mono Hb.out.size)
        clear hb2
        go_wp2
        go_roundw
        case rel => exact ⟨k + 1, by omega, by go_num, HN.out, Hb2.out.alloc Hb2.out.size _⟩
        case measure => simp [intOf]; omega
    · obtain rfl : k = l.length := by omega
      have HK : Hid (Mk.kk l = l.length) := Mk.kk_first HP.out Hall.out (fun h => by omega) hk
      go_wp2
      go_ret
      exact ⟨by rw [HK.out]; rfl, Hb.out⟩

set_option maxRecDepth 100000 in
set_option maxHeartbeats 2000000 in
theorem firstGet_any (g : Nat) (l : List Mk.Ord) (m : Int) (w : World) (h12 : l.length ≤ 12) (hrow : w.rowIs g 3 l.length (fun j => .int .i64 (Mk.rk l j : Int))) :
    Calls Tryz.prog 70 #[.slice (some ⟨g, 0, none⟩) l.length l.length, .int .i64 m] w fun e w' => e = .returned (.slice (some ⟨w.heap.size, 0, none⟩) l.length l.length) ∧ Pl w w' l.length (fun j => if (Mk.rk l j : Int) < m then 1 else 0) := by
  have HRow : Hid (w.rowIs g 3 l.length (fun j => .int .i64 (Mk.rk l j : Int))) := hrow
  clear hrow
  have hmk := run_make_row' (P := Tryz.prog) 53 3 (.int .i64 0) 8 Tryz.underlying53 Tryz.infoInt rfl .i64 .i64 l.length (by omega) (by omega)
  go_enter Tryz.func70, Tryz.ntmps70
  go_wp2
  go_loopw [13] (fun i wr => ∃ k : Nat, k ≤ l.length ∧ i = .int .i64 k ∧ Pl w wr l.length (fun j => if j < k then (if (Mk.rk l j : Int) < m then 1 else 0) else 0)) (fun i _ => l.length - (intOf i).toNat)
  case atStart =>
    refine ⟨0, Nat.zero_le _, rfl, ⟨(Below.refl _ _).alloc (Nat.le_refl _) _, ?_⟩⟩
    exact (World.rowIs_made w (.int .i64 0) l.length 3).congr (fun j _ => by simp)
  case round =>
    obtain ⟨k, hk, rfl, hb⟩ := hrel
    have Hb : Hid (Pl w wr l.length (fun j => if j < k then (if (Mk.rk l j : Int) < m then 1 else 0) else 0)) := hb
    clear hb hmk
    have hgw : g < w.heap.size := World.rowIs.lt HRow.out
    by_cases hlt : k < l.length
    · have rc := World.rowIs.cell (row_below HRow.out Hb.out.below hgw) hlt
      have gc := Hb.out.row.cell hlt
      have gf := Hb.out.row.frozen k
      simp only [Nat.lt_irrefl, if_false] at gc
      have hlt' : (k : Int) < (l.length : Int) := by omega
      by_cases hm : (Mk.rk l k : Int) < m
      · have HM : Hid ((if (Mk.rk l k : Int) < m then (1 : Int) else 0) = 1) := if_pos hm
        go_wp2
        go_roundw
        case rel =>
          refine ⟨k + 1, by omega, by go_num, (Hb.out.set k _).congr (fun j _ => ?_)⟩
          exact Mk.step_on (G := fun j => if (Mk.rk l j : Int) < m then (1 : Int) else 0) (k := k) HM.out j
        case measure => simp [intOf]; omega
      · have HM : Hid ((if (Mk.rk l k : Int) < m then (1 : Int) else 0) = 0) := if_neg hm
        go_wp2
        go_roundw
        case rel =>
          refine ⟨k + 1, by omega, by go_num, Hb.out.congr (fun j _ => ?_)⟩
          exact Mk.step_off (G := fun j => if (Mk.rk l j : Int) < m then (1 : Int) else 0) (k := k) HM.out j
        case measure => simp [intOf]; omega
    · obtain rfl : k = l.length := by omega
      go_wp2
      go_ret
      exact ⟨rfl, Hb.out.congr (fun j hj => by rw [if_pos hj])⟩

end Go.Proofs.YtmebcdpdpcpnmaaGreatDoor

namespace Go.Proofs.YtmebcdpdpcpnmaaGreatDoor
open Go.RowKit

theorem results_tmp4 {fn : Func} {t u v x : Tmp} (h : fn.results = #[.tmp t, .tmp u, .tmp v, .tmp x]) (tmps : Array Value) (P : Program) (w : World) :
    (results fn tmps).run P w = .ok (.tuple #[tmps.getD t undef, tmps.getD u undef, tmps.getD v undef, tmps.getD x undef]) w := by
  simp [results, h]

/-- a pair in a box -/
structure Bp (w : World) (B : Nat) (x y : Int) : Prop where
  c0 : w.cell? ⟨B, 0, none⟩ = some (.int .i64 x)
  c1 : w.cell? ⟨B, 1, none⟩ = some (.int .i64 y)
theorem Bp.lt {w : World} {B : Nat} {x y : Int} (h : Bp w B x y) : B < w.heap.size := blk_lt h.c0
theorem Bp.below {w w' : World} {B n : Nat} {x y : Int} (h : Bp w B x y) (hb : Below n w w') (hn : B < n) : Bp w' B x y :=
  ⟨(hb.cell (p := ⟨B, 0, none⟩) hn).trans h.c0, (hb.cell (p := ⟨B, 1, none⟩) hn).trans h.c1⟩
theorem Bp.born (w : World) (x y : Int) (t : TypeId) : Bp (w.alloc (.cells #[.int .i64 x, .int .i64 y] t)) w.heap.size x y := ⟨by simp, by simp⟩

set_option maxHeartbeats 1000000 in
theorem mcafee_bad (a : Option Addr) (cap : Nat) (l : List Mk.Ord) (w : World) (hv : Mk.validB 1 l = false) (hR : Rd w a l) :
    Calls Tryz.prog 43 #[.slice a l.length cap] w fun e w' => e = .returned (.tuple #[.slice none 0 0, .int .i64 0, .int .i64 0, .int .i64 1]) ∧ Below w.heap.size w w' := by
  have HR : Hid (Rd w a l) := hR
  clear hR
  rcases Bool.eq_false_or_eq_true (Mk.validB 20 l) with h20 | h20
  · have h12 := (Mk.ok_of_valid h20).1
    have hone : l.all Mk.oneB = false := by rw [Mk.valid_one, h20, Bool.true_and] at hv; exact hv
    have HO : Hid (l.all Mk.oneB = false) := hone
    clear hv hone
    go_enter Tryz.func43, Tryz.ntmps43
    go_wp2_with fail
    refine (isBatch_any a cap l _ HR.out).mono ?_
    rintro e w1 ⟨rfl, hb1⟩
    have Hb1 : Hid (Below w.heap.size w w1) := hb1
    clear hb1
    go_wp2_with fail
    refine (areSingle_any a cap l _ h12 (HR.out.below Hb1.out)).mono ?_
    rw [HO.out]
    rintro e w2 ⟨rfl, hb2⟩
    have Hb2 : Hid (Below w.heap.size w w2) := Hb1.out.trans (hb2.mono Hb1.out.size)
    clear hb2
    go_wp2
    (try simp only [Exit.inBlock, Exit.then]); refine bodyPost_ret (results_tmp4 rfl _ _ _) rfl ?_
    exact ⟨rfl, Hb2.out⟩
  · clear hv
    go_enter Tryz.func43, Tryz.ntmps43
    go_wp2_with fail
    refine (isBatch_any a cap l _ HR.out).mono ?_
    rintro e w1 ⟨rfl, hb1⟩
    have Hb1 : Hid (Below w.heap.size w w1) := hb1
    clear hb1
    go_wp2
    (try simp only [Exit.inBlock, Exit.then]); refine bodyPost_ret (results_tmp4 rfl _ _ _) rfl ?_
    exact ⟨rfl, Hb1.out⟩

/-- what the program's McAfee holds behind its two pairs -/
def lastB (l : List Mk.Ord) : Int := Mk.lastTo l false ((Mk.kk l : Int) - 1) 0 l.length
def lastS (l : List Mk.Ord) : Int := Mk.lastTo l true ((Mk.kk l : Int) - 1) 100 l.length
theorem lastB_is {l : List Mk.Ord} (h : Mk.kk l ≠ 0) : lastB l = Mk.pB l (Mk.kk l - 1) := by
  unfold lastB
  rw [show ((Mk.kk l : Int) - 1) = ((Mk.kk l - 1 : Nat) : Int) by omega, Mk.lastTo_all, Mk.prAt_B]
theorem lastS_is {l : List Mk.Ord} (h : Mk.kk l ≠ 0) : lastS l = Mk.pS l (Mk.kk l - 1) := by
  unfold lastS
  rw [show ((Mk.kk l : Int) - 1) = ((Mk.kk l - 1 : Nat) : Int) by omega, Mk.lastTo_all, Mk.prAt_S]
theorem pairAt_last (a : Option Addr) (cap g : Nat) (l : List Mk.Ord) (w : World) (h12 : l.length ≤ 12) (hR : Rd w a l) (hrow : w.rowIs g 3 l.length (fun j => .int .i64 (Mk.rk l j : Int))) :
    Calls Tryz.prog 69 #[.slice a l.length cap, .slice (some ⟨g, 0, none⟩) l.length l.length, .int .i64 ((Mk.kk l : Int) - 1)] w fun e w' =>
      e = .returned (.agg #[.int .i64 (lastB l), .int .i64 (lastS l)]) ∧ Below w.heap.size w w' := pairAt_any a cap g l _ w h12 hR hrow

/-- the answer of McAfee -/
def McIs (l : List Mk.Ord) (w : World) (e : Ending) (w' : World) : Prop :=
  ∃ g, e = .returned (.tuple #[.slice (some ⟨g, 0, none⟩) l.length l.length, .int .i64 (Mk.mcPay l), .int .i64 (Mk.mcGet l), .int .i64 0]) ∧ w.heap.size ≤ g ∧ Below w.heap.size w w' ∧ w'.rowIs g 3 l.length (fun i => .int .i64 (Mk.mcF l i))

theorem mcIs_zero {l : List Mk.Ord} {w w' : World} {g : Nat} (h : Mk.mcK l = 0 ∧ Mk.mcPay l = 0 ∧ Mk.mcGet l = 0) (hg : w.heap.size ≤ g) (hb : Below w.heap.size w w') (hrow : w'.rowIs g 3 l.length (fun _ => .int .i64 0)) :
    McIs l w (.returned (.tuple #[.slice (some ⟨g, 0, none⟩) l.length l.length, .int .i64 0, .int .i64 0, .int .i64 0])) w' :=
  ⟨g, by rw [h.2.1, h.2.2], hg, hb, hrow.congr (fun i _ => by rw [Mk.mcF_zero h.1])⟩
theorem mcIs_some {l : List Mk.Ord} {w w' : World} {g : Nat} {m : Int} {p q : Int} (hm : m = Mk.mcK l) (hp : p = Mk.mcPay l) (hq : q = Mk.mcGet l) (hg : w.heap.size ≤ g) (hb : Below w.heap.size w w') (hrow : w'.rowIs g 3 l.length (fun j => .int .i64 (if (Mk.rk l j : Int) < m then 1 else 0))) :
    McIs l w (.returned (.tuple #[.slice (some ⟨g, 0, none⟩) l.length l.length, .int .i64 p, .int .i64 q, .int .i64 0])) w' := by
  subst hp hq hm
  refine ⟨g, rfl, hg, hb, hrow.congr (fun i _ => ?_)⟩
  unfold Mk.mcF
  by_cases h : Mk.rk l i < Mk.mcK l
  · rw [if_pos h, if_pos (by omega)]
  · rw [if_neg h, if_neg (by omega)]

set_option maxRecDepth 100000 in
set_option maxHeartbeats 2000000 in
theorem mcafee_any (a : Option Addr) (cap : Nat) (l : List Mk.Ord) (w : World) (hv : Mk.validB 1 l = true) (hR : Rd w a l) :
    Calls Tryz.prog 43 #[.slice a l.length cap] w fun e w' => McIs l w e w' := by
  have HR : Hid (Rd w a l) := hR
  have h20 := Mk.valid_20 hv
  have h12 := (Mk.ok_of_valid h20).1
  have hone : l.all Mk.oneB = true := by rw [Mk.valid_one, h20, Bool.true_and] at hv; exact hv
  have HO : Hid (l.all Mk.oneB = true) := hone
  have HV : Hid (Mk.validB 20 l = true) := h20
  have hp := Mk.okP_of hv
  have HP : Hid (Mk.okP l) := hp
  have hmk := run_make_row' (P := Tryz.prog) 53 3 (.int .i64 0) 8 Tryz.underlying53 Tryz.infoInt rfl .i64 .i64 l.length (by omega) (by omega)
  have b1 := Mk.pB_bd hp (Mk.kk l)
  have b2 := Mk.pS_bd hp (Mk.kk l)
  have b3 := Mk.kk_le (l := l)
  clear hv hone hp hR
  go_enter Tryz.func43, Tryz.ntmps43
  go_wp2_with fail
  refine (isBatch_any a cap l _ HR.out).mono ?_
  rintro e w1 ⟨rfl, hb1⟩
  have Hb1 : Hid (Below w.heap.size w w1) := hb1
  clear hb1
  go_wp2_with fail
  refine (areSingle_any a cap l _ h12 (HR.out.below Hb1.out)).mono ?_
  rw [HO.out]
  rintro e w2 ⟨rfl, hb2⟩
  have Hb2 : Hid (Below w.heap.size w w2) := Hb1.out.trans (hb2.mono Hb1.out.size)
  clear hb2
  go_wp2_with fail
  refine (rowPlaces_any a cap l _ h12 (HR.out.below Hb2.out)).mono ?_
  rintro e w3 ⟨rfl, hp3⟩
  have Hb3 : Hid (Below w.heap.size w w3) := Hb2.out.trans (hp3.below.mono Hb2.out.size)
  have HW3 : Hid (w3.rowIs w2.heap.size 3 l.length (fun j => .int .i64 (Mk.rk l j : Int))) := hp3.row
  clear hp3
  go_wp2_with fail
  refine (countPairs_any a cap w2.heap.size l _ HV.out (HR.out.below Hb3.out) HW3.out).mono ?_
  rintro e w4 ⟨rfl, hb4⟩
  have Hb4 : Hid (Below w.heap.size w w4) := Hb3.out.trans (hb4.mono Hb3.out.size)
  have HW4 : Hid (w4.rowIs w2.heap.size 3 l.length (fun j => .int .i64 (Mk.rk l j : Int))) := row_below HW3.out hb4 (World.rowIs.lt HW3.out)
  clear hb4
  go_wp2_with fail
  refine (pairAt_last a cap w2.heap.size l _ h12 (HR.out.below Hb4.out) HW4.out).mono ?_
  rintro e w5 ⟨rfl, hb5⟩
  have Hb5 : Hid (Below w.heap.size w w5) := Hb4.out.trans (hb5.mono Hb4.out.size)
  have HW5 : Hid (w5.rowIs w2.heap.size 3 l.length (fun j => .int .i64 (Mk.rk l j : Int))) := row_below HW4.out hb5 (World.rowIs.lt HW4.out)
  clear hb5
  go_wp2_with fail
  have HLt : Hid (w2.heap.size < w5.heap.size) := World.rowIs.lt HW5.out
  refine (pairAt_nat a cap w2.heap.size l (Mk.kk l) _ h12 (HR.out.below (Hb5.out.alloc Hb5.out.size _)) (World.rowIs.alloc HW5.out _)).mono ?_
  rintro e w6 ⟨rfl, hb6⟩
  have Hb6 : Hid (Below w.heap.size w w6) := (Hb5.out.alloc Hb5.out.size _).trans (hb6.mono (Nat.le_trans Hb5.out.size (by simp)))
  have HW6 : Hid (w6.rowIs w2.heap.size 3 l.length (fun j => .int .i64 (Mk.rk l j : Int))) := row_below (World.rowIs.alloc HW5.out _) hb6 (by have := HLt.out; simp; omega)
  have hq6 : Bp w6 w5.heap.size (lastB l) (lastS l) := (Bp.born w5 (lastB l) (lastS l) _).below hb6 (by simp)
  have HQ6 : Hid (Bp w6 w5.heap.size (lastB l) (lastS l)) := hq6
  have hlt6 := hq6.lt
  obtain ⟨q0, q1⟩ := hq6
  clear hb6
  have HSz : Hid (w.heap.size ≤ w6.heap.size) := Hb6.out.size
  by_cases h0 : Mk.kk l = 0
  · have h0' : ¬ (0 : Int) < (Mk.kk l : Int) := by omega
    have h1' : ¬ (1 : Int) < (Mk.kk l : Int) := by omega
    have HZ : Hid (Mk.mcK l = 0 ∧ Mk.mcPay l = 0 ∧ Mk.mcGet l = 0) := Mk.mc_none h0
    clear h0
    go_wp2
    (try simp only [Exit.inBlock, Exit.then]); refine bodyPost_ret (results_tmp4 rfl _ _ _) rfl ?_
    have hrow := World.rowIs_made (w6.alloc (.cells #[.int .i64 (Mk.pB l (Mk.kk l)), .int .i64 (Mk.pS l (Mk.kk l))] 138)) (.int .i64 0) l.length 3
    simp only [World.size_alloc] at hrow
    refine mcIs_zero HZ.out ?_ ?_ hrow
    · have := HSz.out; omega
    · exact (Hb6.out.alloc HSz.out _).alloc (by have := HSz.out; simp; omega) _
  · have e1 := lastB_is h0
    have e2 := lastS_is h0
    have h0' : (0 : Int) < (Mk.kk l : Int) := by omega
    rcases Bool.eq_false_or_eq_true (Mk.full l) with hf | hf
    · obtain ⟨m1, m2⟩ := Mk.full_iff.1 hf
      have f1 : lastS l ≤ (Mk.pB l (Mk.kk l) + Mk.pS l (Mk.kk l)) / 2 := by rw [e2]; exact m1
      have f2 : (Mk.pB l (Mk.kk l) + Mk.pS l (Mk.kk l)) / 2 ≤ lastB l := by rw [e1]; exact m2
      have HM : Hid (Mk.mcK l = Mk.kk l ∧ Mk.mcPay l = Mk.mid l ∧ Mk.mcGet l = Mk.mid l) := Mk.mc_full h0 hf
      clear e1 e2 m1 m2 hf h0 hmk
      go_wp2_with fail
      refine (firstGet_any w2.heap.size l _ _ h12 (World.rowIs.alloc HW6.out _)).mono ?_
      rintro e w7 ⟨rfl, hp7⟩
      have HP7 := (show Hid _ from hp7)
      have HR7 := hp7.row
      simp only [World.size_alloc] at HR7
      have HR8 := (show Hid _ from HR7)
      clear hp7 HR7
      go_wp2
      (try simp only [Exit.inBlock, Exit.then]); refine bodyPost_ret (results_tmp4 rfl _ _ _) rfl ?_
      refine mcIs_some (by rw [HM.out.1]) HM.out.2.1.symm HM.out.2.2.symm ?_ ?_ HR8.out
      · have := HSz.out; simp; omega
      · exact (Hb6.out.alloc HSz.out _).trans (HP7.out.below.mono (by have := HSz.out; simp; omega))
    · have hn : ¬ (Mk.pS l (Mk.kk l - 1) ≤ Mk.mid l ∧ Mk.mid l ≤ Mk.pB l (Mk.kk l - 1)) := fun h => by rw [Mk.full_iff.2 h] at hf; cases hf
      have hn' : ¬ (lastS l ≤ (Mk.pB l (Mk.kk l) + Mk.pS l (Mk.kk l)) / 2 ∧ (Mk.pB l (Mk.kk l) + Mk.pS l (Mk.kk l)) / 2 ≤ lastB l) := by rw [e1, e2]; exact hn
      have HE : Hid (lastB l = Mk.pB l (Mk.kk l - 1) ∧ lastS l = Mk.pS l (Mk.kk l - 1)) := ⟨e1, e2⟩
      clear hn e1 e2
      obtain ⟨p, hpp⟩ : ∃ p, p = (Mk.pB l (Mk.kk l) + Mk.pS l (Mk.kk l)) / 2 := ⟨_, rfl⟩
      by_cases h1 : Mk.kk l = 1
      · have h1' : ¬ (1 : Int) < (Mk.kk l : Int) := by omega
        have HZ : Hid (Mk.mcK l = 0 ∧ Mk.mcPay l = 0 ∧ Mk.mcGet l = 0) := Mk.mc_one h1 hf
        clear h0 h1 hf hpp
        by_cases f1 : lastS l ≤ (Mk.pB l (Mk.kk l) + Mk.pS l (Mk.kk l)) / 2
        · have f2 : ¬ (Mk.pB l (Mk.kk l) + Mk.pS l (Mk.kk l)) / 2 ≤ lastB l := fun h => hn' ⟨f1, h⟩
          clear hn'
          go_wp2
          (try simp only [Exit.inBlock, Exit.then]); refine bodyPost_ret (results_tmp4 rfl _ _ _) rfl ?_
          have hrow := World.rowIs_made (w6.alloc (.cells #[.int .i64 (Mk.pB l (Mk.kk l)), .int .i64 (Mk.pS l (Mk.kk l))] 138)) (.int .i64 0) l.length 3
          simp only [World.size_alloc] at hrow
          refine mcIs_zero HZ.out ?_ ?_ hrow
          · have := HSz.out; omega
          · exact (Hb6.out.alloc HSz.out _).alloc (by have := HSz.out; simp; omega) _
        · clear hn'
          go_wp2
          (try simp only [Exit.inBlock, Exit.then]); refine bodyPost_ret (results_tmp4 rfl _ _ _) rfl ?_
          have hrow := World.rowIs_made (w6.alloc (.cells #[.int .i64 (Mk.pB l (Mk.kk l)), .int .i64 (Mk.pS l (Mk.kk l))] 138)) (.int .i64 0) l.length 3
          simp only [World.size_alloc] at hrow
          refine mcIs_zero HZ.out ?_ ?_ hrow
          · have := HSz.out; omega
          · exact (Hb6.out.alloc HSz.out _).alloc (by have := HSz.out; simp; omega) _
      · have h1' : (1 : Int) < (Mk.kk l : Int) := by omega
        have HM : Hid (Mk.mcK l = Mk.kk l - 1 ∧ Mk.mcPay l = Mk.pB l (Mk.kk l - 1) ∧ Mk.mcGet l = Mk.pS l (Mk.kk l - 1)) := Mk.mc_less (by omega) hf
        have HK : Hid (((Mk.kk l : Int) - 1) = ((Mk.kk l - 1 : Nat) : Int)) := (by omega : ((Mk.kk l : Int) - 1) = ((Mk.kk l - 1 : Nat) : Int))
        clear h0 h1 hf hpp hmk
        by_cases f1 : lastS l ≤ (Mk.pB l (Mk.kk l) + Mk.pS l (Mk.kk l)) / 2
        · have f2 : ¬ (Mk.pB l (Mk.kk l) + Mk.pS l (Mk.kk l)) / 2 ≤ lastB l := fun h => hn' ⟨f1, h⟩
          clear hn'
          go_wp2_with fail
          have HQ7 : Hid (Bp (w6.alloc (.cells #[.int .i64 (Mk.pB l (Mk.kk l)), .int .i64 (Mk.pS l (Mk.kk l))] 138)) w5.heap.size (lastB l) (lastS l)) := HQ6.out.below ((Below.refl _ _).alloc (Nat.le_refl _) _) hlt6
          have HB7 : Hid (Below w.heap.size w (w6.alloc (.cells #[.int .i64 (Mk.pB l (Mk.kk l)), .int .i64 (Mk.pS l (Mk.kk l))] 138))) := Hb6.out.alloc HSz.out _
          have HW7 : Hid ((w6.alloc (.cells #[.int .i64 (Mk.pB l (Mk.kk l)), .int .i64 (Mk.pS l (Mk.kk l))] 138)).rowIs w2.heap.size 3 l.length (fun j => .int .i64 (Mk.rk l j : Int))) := World.rowIs.alloc HW6.out _
          generalize w6.alloc (.cells #[.int .i64 (Mk.pB l (Mk.kk l)), .int .i64 (Mk.pS l (Mk.kk l))] 138) = W at *
          obtain ⟨k0, k1⟩ := HQ7.out
          have HQ8 : Hid (∀ w', Below W.drew.heap.size W.drew w' → Bp w' w5.heap.size (lastB l) (lastS l)) := fun w' hb => HQ7.out.below (w := W) ((Below.refl _ W).drew.trans hb) HQ7.out.lt
          go_region_with (go_at_call 70; (refine (firstGet_any w2.heap.size l _ _ h12 ?_).mono ?_; exact World.rowIs.drew HW7.out; rintro e w7 ⟨rfl, hp7⟩; obtain ⟨n0, n1⟩ := HQ8.out _ hp7.below))
          all_goals
            go_wp2
            (try simp only [Exit.inBlock, Exit.then]); refine bodyPost_ret (results_tmp4 rfl _ _ _) rfl ?_
            refine mcIs_some (by rw [HM.out.1, IntWalk.i64_in _ (by omega)]; exact HK.out) (HE.out.1.trans HM.out.2.1.symm) (HE.out.2.trans HM.out.2.2.symm) ?_ ?_ hp7.row
            · exact HB7.out.size
            · exact HB7.out.drew.trans (Below.mono hp7.below HB7.out.size)
        · clear hn'
          go_wp2_with fail
          have HQ7 : Hid (Bp (w6.alloc (.cells #[.int .i64 (Mk.pB l (Mk.kk l)), .int .i64 (Mk.pS l (Mk.kk l))] 138)) w5.heap.size (lastB l) (lastS l)) := HQ6.out.below ((Below.refl _ _).alloc (Nat.le_refl _) _) hlt6
          have HB7 : Hid (Below w.heap.size w (w6.alloc (.cells #[.int .i64 (Mk.pB l (Mk.kk l)), .int .i64 (Mk.pS l (Mk.kk l))] 138))) := Hb6.out.alloc HSz.out _
          have HW7 : Hid ((w6.alloc (.cells #[.int .i64 (Mk.pB l (Mk.kk l)), .int .i64 (Mk.pS l (Mk.kk l))] 138)).rowIs w2.heap.size 3 l.length (fun j => .int .i64 (Mk.rk l j : Int))) := World.rowIs.alloc HW6.out _
          generalize w6.alloc (.cells #[.int .i64 (Mk.pB l (Mk.kk l)), .int .i64 (Mk.pS l (Mk.kk l))] 138) = W at *
          obtain ⟨k0, k1⟩ := HQ7.out
          have HQ8 : Hid (∀ w', Below W.drew.heap.size W.drew w' → Bp w' w5.heap.size (lastB l) (lastS l)) := fun w' hb => HQ7.out.below (w := W) ((Below.refl _ W).drew.trans hb) HQ7.out.lt
          go_region_with (go_at_call 70; (refine (firstGet_any w2.heap.size l _ _ h12 ?_).mono ?_; exact World.rowIs.drew HW7.out; rintro e w7 ⟨rfl, hp7⟩; obtain ⟨n0, n1⟩ := HQ8.out _ hp7.below))
          all_goals
            go_wp2
            (try simp only [Exit.inBlock, Exit.then]); refine bodyPost_ret (results_tmp4 rfl _ _ _) rfl ?_
            refine mcIs_some (by rw [HM.out.1, IntWalk.i64_in _ (by omega)]; exact HK.out) (HE.out.1.trans HM.out.2.1.symm) (HE.out.2.trans HM.out.2.2.symm) ?_ ?_ hp7.row
            · exact HB7.out.size
            · exact HB7.out.drew.trans (Below.mono hp7.below HB7.out.size)

end Go.Proofs.YtmebcdpdpcpnmaaGreatDoor
