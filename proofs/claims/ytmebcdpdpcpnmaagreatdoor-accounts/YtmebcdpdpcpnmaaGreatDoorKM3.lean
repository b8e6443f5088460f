import Derived.Test.YtmebcdpdpcpnmaaGreatDoorKM2
namespace Go.Proofs.YtmebcdpdpcpnmaaGreatDoor
open Go.RowKit

/-- pairAt's memory at a round's head: its result's block, its pair's block -/
structure Pa (w wr : World) (x y : Int) : Prop where
  below : Below w.heap.size w wr
  size : w.heap.size + 1 < wr.heap.size
  c0 : wr.cell? ⟨w.heap.size + 1, 0, none⟩ = some (.int .i64 x)
  c1 : wr.cell? ⟨w.heap.size + 1, 1, none⟩ = some (.int .i64 y)
  f0 : wr.frozen? ⟨w.heap.size + 1, 0, none⟩ = false
  f1 : wr.frozen? ⟨w.heap.size + 1, 1, none⟩ = false
  r0 : wr.cell? ⟨w.heap.size, 0, none⟩ = some (.int .i64 0)
  r1 : wr.cell? ⟨w.heap.size, 1, none⟩ = some (.int .i64 0)
  g0 : wr.frozen? ⟨w.heap.size, 0, none⟩ = false
  g1 : wr.frozen? ⟨w.heap.size, 1, none⟩ = false

theorem Pa.alloc {w wr : World} {x y : Int} (h : Pa w wr x y) (o : Obj) : Pa w (wr.alloc o) x y := by
  have hs := h.size
  exact ⟨h.below.alloc (by omega) o, by simp; omega, cell_al h.c0, cell_al h.c1, froz_al hs h.f0, froz_al hs h.f1, cell_al h.r0, cell_al h.r1, froz_al (by omega) h.g0, froz_al (by omega) h.g1⟩
theorem Pa.setX {w wr : World} {x y : Int} (h : Pa w wr x y) (v : Int) : Pa w (wr.setCell ⟨w.heap.size + 1, 0, none⟩ (.int .i64 v)) v y :=
  ⟨h.below.setCell (by simp) _, by simpa using h.size, cell_set_same h.c0, cell_set_ne (by omega) h.c1, by simpa using h.f0, by simpa using h.f1, cell_set_ne (by omega) h.r0, cell_set_ne (by omega) h.r1, by simpa using h.g0, by simpa using h.g1⟩
theorem Pa.setY {w wr : World} {x y : Int} (h : Pa w wr x y) (v : Int) : Pa w (wr.setCell ⟨w.heap.size + 1, 1, none⟩ (.int .i64 v)) x v :=
  ⟨h.below.setCell (by simp) _, by simpa using h.size, cell_set_ne (by omega) h.c0, cell_set_same h.c1, by simpa using h.f0, by simpa using h.f1, cell_set_ne (by omega) h.r0, cell_set_ne (by omega) h.r1, by simpa using h.g0, by simpa using h.g1⟩

set_option maxRecDepth 100000 in
set_option maxHeartbeats 2000000 in
theorem pairAt_some (b off cap g : Nat) (l : List Mk.Ord) (m : Int) (w : World) (h12 : l.length ≤ 12) (hR : At w b off l) (hrow : w.rowIs g 3 l.length (fun j => .int .i64 (Mk.rk l j : Int))) :
    Calls Tryz.prog 69 #[.slice (some ⟨b, off, none⟩) l.length cap, .slice (some ⟨g, 0, none⟩) l.length l.length, .int .i64 m] w fun e w' =>
      e = .returned (.agg #[.int .i64 (Mk.lastTo l false m 0 l.length), .int .i64 (Mk.lastTo l true m 100 l.length)]) ∧ Below w.heap.size w w' := by
  have HR : Hid (At w b off l) := hR
  have HRow : Hid (w.rowIs g 3 l.length (fun j => .int .i64 (Mk.rk l j : Int))) := hrow
  clear hR hrow
  go_enter Tryz.func69, Tryz.ntmps69
  go_wp2
  go_loopw [13] (fun i wr => ∃ k : Nat, k ≤ l.length ∧ i = .int .i64 k ∧ Pa w wr (Mk.lastTo l false m 0 k) (Mk.lastTo l true m 100 k)) (fun i _ => l.length - (intOf i).toNat)
  case atStart =>
    refine ⟨0, Nat.zero_le _, rfl, ?_⟩
    exact ⟨((Below.refl _ _).alloc (Nat.le_refl _) _).alloc (by simp) _, by simp, by simp [Mk.lastTo], by simp [Mk.lastTo], by simp [go_sem], by simp [go_sem], by simp, by simp, by simp [go_sem], by simp [go_sem]⟩
  case round =>
    obtain ⟨k, hk, rfl, hb⟩ := hrel
    have Hb : Hid (Pa w wr (Mk.lastTo l false m 0 k) (Mk.lastTo l true m 100 k)) := hb
    obtain ⟨_, hsz, e0, e1, f0, f1, r0, r1, g0, g1⟩ := hb
    have hsz' : w.heap.size < wr.heap.size := by omega
    have hgw : g < w.heap.size := World.rowIs.lt HRow.out
    have hgr : g < wr.heap.size := by omega
    by_cases hlt : k < l.length
    · obtain ⟨c0, c1, c2⟩ := At.below HR.out Hb.out.below k hlt
      have hbl := blk_lt c0
      have rc := World.rowIs.cell (row_below HRow.out Hb.out.below hgw) hlt
      have hlt' : (k : Int) < (l.length : Int) := by omega
      have hd : decide (l.length ≤ k) = false := by simp; omega
      have hd2 : ¬ l.length ≤ k := by omega
      have HSl : Hid (Mk.sl l k = l[k].sell) := Mk.sl_at hlt
      have HPr : Hid (Mk.pr l k = l[k].price) := Mk.pr_at hlt
      by_cases hm : (Mk.rk l k : Int) = m
      · have hm' : ((Mk.rk l k : Int) == m) = true := by simp [hm]
        have HM : Hid ((Mk.rk l k : Int) = m) := hm
        clear hm
        rcases Bool.eq_false_or_eq_true l[k].sell with hs | hs
        · have HY : Hid (Mk.lastTo l true m 100 (k + 1) = l[k].price) := (Mk.lastTo_yes (HSl.out.trans hs) HM.out).trans HPr.out
          have HX : Hid (Mk.lastTo l false m 0 (k + 1) = Mk.lastTo l false m 0 k) := Mk.lastTo_no (.inl (by rw [HSl.out, hs]; simp))
          rw [hs] at c0
          clear hs
          go_wp2
          go_roundw
          case rel => exact ⟨k + 1, by omega, by go_num, by rw [HX.out, HY.out]; exact (Hb.out.setY _).alloc _⟩
          case measure => simp [intOf]; omega
        · have HX : Hid (Mk.lastTo l false m 0 (k + 1) = l[k].price) := (Mk.lastTo_yes (HSl.out.trans hs) HM.out).trans HPr.out
          have HY : Hid (Mk.lastTo l true m 100 (k + 1) = Mk.lastTo l true m 100 k) := Mk.lastTo_no (.inl (by rw [HSl.out, hs]; simp))
          rw [hs] at c0
          clear hs
          go_wp2
          go_roundw
          case rel => exact ⟨k + 1, by omega, by go_num, by rw [HX.out, HY.out]; exact (Hb.out.setX _).alloc _⟩
          case measure => simp [intOf]; omega
      · have hm' : ((Mk.rk l k : Int) == m) = false := by simp [hm]
        have HX : Hid (Mk.lastTo l false m 0 (k + 1) = Mk.lastTo l false m 0 k) := Mk.lastTo_no (.inr hm)
        have HY : Hid (Mk.lastTo l true m 100 (k + 1) = Mk.lastTo l true m 100 k) := Mk.lastTo_no (.inr hm)
        clear hm
        go_wp2
        go_roundw
        case rel => exact ⟨k + 1, by omega, by go_num, by rw [HX.out, HY.out]; exact Hb.out.alloc _⟩
        case measure => simp [intOf]; omega
    · obtain rfl : k = l.length := by omega
      go_wp2
      refine bodyPost_ret (v := .agg #[.int .i64 (Mk.lastTo l false m 0 l.length), .int .i64 (Mk.lastTo l true m 100 l.length)]) ?_ rfl ⟨rfl, (Hb.out.below.setCell (by simp) _).setCell (by simp) _⟩
      have q1 := fun a b => cell_set_same (u := b) (cell_set_ne (b' := w.heap.size) (o' := 0) (u := a) (by omega) r1)
      have q0 := fun a b => cell_set_ne (b' := w.heap.size) (o' := 1) (u := b) (by omega) (cell_set_same (u := a) r0)
      simp [results, Tryz.results69, go_sem, q0, q1]
      try exact ⟨rfl, rfl⟩

set_option maxRecDepth 100000 in
set_option maxHeartbeats 1000000 in
theorem pairAt_nil (a : Option Addr) (cap : Nat) (a' : Option Addr) (n c : Nat) (m : Int) (w : World) :
    Calls Tryz.prog 69 #[.slice a 0 cap, .slice a' n c, .int .i64 m] w fun e w' => e = .returned (.agg #[.int .i64 0, .int .i64 100]) ∧ Below w.heap.size w w' := by
  go_enter Tryz.func69, Tryz.ntmps69
  go_wp2
  go_loop [13] (fun i => i = .int .i64 0) (fun i => 0)
  case atStart => rfl
  case round =>
    subst hrel
    go_wp2
    refine bodyPost_ret (v := .agg #[.int .i64 0, .int .i64 100]) ?_ rfl ⟨rfl, ?_⟩
    · simp [results, Tryz.results69, go_sem]
    · repeat (first | exact Below.refl _ _ | refine Below.alloc ?_ (by simp <;> omega) _ | refine Below.setCell ?_ (by simp) _)

theorem pairAt_any (a : Option Addr) (cap g : Nat) (l : List Mk.Ord) (m : Int) (w : World) (h12 : l.length ≤ 12) (hR : Rd w a l) (hrow : w.rowIs g 3 l.length (fun j => .int .i64 (Mk.rk l j : Int))) :
    Calls Tryz.prog 69 #[.slice a l.length cap, .slice (some ⟨g, 0, none⟩) l.length l.length, .int .i64 m] w fun e w' =>
      e = .returned (.agg #[.int .i64 (Mk.lastTo l false m 0 l.length), .int .i64 (Mk.lastTo l true m 100 l.length)]) ∧ Below w.heap.size w w' := by
  rcases hR with rfl | ⟨b, off, rfl, hR⟩
  · exact pairAt_nil a cap _ _ _ m w
  · exact pairAt_some b off cap g l m w h12 hR hrow
theorem pairAt_nat (a : Option Addr) (cap g : Nat) (l : List Mk.Ord) (m : Nat) (w : World) (h12 : l.length ≤ 12) (hR : Rd w a l) (hrow : w.rowIs g 3 l.length (fun j => .int .i64 (Mk.rk l j : Int))) :
    Calls Tryz.prog 69 #[.slice a l.length cap, .slice (some ⟨g, 0, none⟩) l.length l.length, .int .i64 m] w fun e w' =>
      e = .returned (.agg #[.int .i64 (Mk.pB l m), .int .i64 (Mk.pS l m)]) ∧ Below w.heap.size w w' := by
  have h := pairAt_any a cap g l m w h12 hR hrow
  rw [Mk.lastTo_all, Mk.lastTo_all, Mk.prAt_B, Mk.prAt_S] at h
  exact h

set_option maxRecDepth 100000 in
set_option maxHeartbeats 2000000 in
theorem countPairs_any (a : Option Addr) (cap g : Nat) (l : List Mk.Ord) (w : World) (hv : Mk.validB 20 l = true) (hR : Rd w a l) (hrow : w.rowIs g 3 l.length (fun j => .int .i64 (Mk.rk l j : Int))) :
    Calls Tryz.prog 68 #[.slice a l.length cap, .slice (some ⟨g, 0, none⟩) l.length l.length] w fun e w' =>
      e = .returned (.int .i64 (Mk.kk l : Int)) ∧ Below w.heap.size w w' := by
  have h12 := (Mk.ok_of_valid hv).1
  have HP : Hid (Mk.okP l) := Mk.okP_of hv
  have HR : Hid (Rd w a l) := hR
  have HRow : Hid (w.rowIs g 3 l.length (fun j => .int .i64 (Mk.rk l j : Int))) := hrow
  clear hR hrow hv
  go_enter Tryz.func68, Tryz.ntmps68
  go_wp2
  go_loopw [9] (fun i wr => ∃ k : Nat, k ≤ l.length ∧ i = .int .i64 k ∧ (∀ j, j < k → Mk.pS l j ≤ Mk.pB l j) ∧ Below w.heap.size w wr) (fun i _ => l.length - (intOf i).toNat)
  case atStart => exact ⟨0, Nat.zero_le _, rfl, fun j hj => by omega, Below.refl _ _⟩
  case round =>
    obtain ⟨k, hk, rfl, hall, hb⟩ := hrel
    have Hall : Hid (∀ j, j < k → Mk.pS l j ≤ Mk.pB l j) := hall
    have Hb : Hid (Below w.heap.size w wr) := hb
    clear hb hall
    by_cases hlt : k < l.length
    · have hlt' : (k : Int) < (l.length : Int) := by omega
      by_cases hc : Mk.pB l k < Mk.pS l k
      · have HK : Hid (Mk.kk l = k) := Mk.kk_first HP.out Hall.out (fun _ => hc) hk
        go_wp2_with fail
        refine (pairAt_nat a cap g l k _ h12 (HR.out.below Hb.out) (row_below HRow.out Hb.out (World.rowIs.lt HRow.out))).mono ?_
        rintro e w2 ⟨rfl, hb2⟩
        have Hb2 : Hid (Below w.heap.size w w2) := Hb.out.trans (hb2.mono Hb.out.size)
        clear hb2
        go_wp2
        go_ret
        exact ⟨by rw [HK.out]; rfl, Hb2.out.alloc Hb2.out.size _⟩
      · have HN : Hid (∀ j, j < k + 1 → Mk.pS l j ≤ Mk.pB l j) := fun j hj => by
          by_cases e : j = k
          · subst e; omega
          · exact Hall.out j (by omega)
        go_wp2_with fail
        refine (pairAt_nat a cap g l k _ h12 (HR.out.below Hb.out) (row_below HRow.out Hb.out (World.rowIs.lt HRow.out))).mono ?_
        rintro e w2 ⟨rfl, hb2⟩
        have Hb2 : Hid (Below w.heap.size w w2) := Hb.out.trans (hb2.mono Hb.out.size)
        clear hb2
        go_wp2
        go_roundw
        case rel => exact ⟨k + 1, by omega, by go_num, HN.out, Hb2.out.alloc Hb2.out.size _⟩
        case measure => simp [intOf]; omega
    · obtain rfl : k = l.length := by omega
      have HK : Hid (Mk.kk l = l.length) := Mk.kk_first HP.out Hall.out (fun h => by omega) hk
      go_wp2
      go_ret
      exact ⟨by rw [HK.out]; rfl, Hb.out⟩

set_option maxRecDepth 100000 in
set_option maxHeartbeats 2000000 in
theorem firstGet_any (g : Nat) (l : List Mk.Ord) (m : Int) (w : World) (h12 : l.length ≤ 12) (hrow : w.rowIs g 3 l.length (fun j => .int .i64 (Mk.rk l j : Int))) :
    Calls Tryz.prog 70 #[.slice (some ⟨g, 0, none⟩) l.length l.length, .int .i64 m] w fun e w' => e = .returned (.slice (some ⟨w.heap.size, 0, none⟩) l.length l.length) ∧ Pl w w' l.length (fun j => if (Mk.rk l j : Int) < m then 1 else 0) := by
  have HRow : Hid (w.rowIs g 3 l.length (fun j => .int .i64 (Mk.rk l j : Int))) := hrow
  clear hrow
  have hmk := run_make_row' (P := Tryz.prog) 53 3 (.int .i64 0) 8 Tryz.underlying53 Tryz.infoInt rfl .i64 .i64 l.length (by omega) (by omega)
  go_enter Tryz.func70, Tryz.ntmps70
  go_wp2
  go_loopw [13] (fun i wr => ∃ k : Nat, k ≤ l.length ∧ i = .int .i64 k ∧ Pl w wr l.length (fun j => if j < k then (if (Mk.rk l j : Int) < m then 1 else 0) else 0)) (fun i _ => l.length - (intOf i).toNat)
  case atStart =>
    refine ⟨0, Nat.zero_le _, rfl, ⟨(Below.refl _ _).alloc (Nat.le_refl _) _, ?_⟩⟩
    exact (World.rowIs_made w (.int .i64 0) l.length 3).congr (fun j _ => by simp)
  case round =>
    obtain ⟨k, hk, rfl, hb⟩ := hrel
    have Hb : Hid (Pl w wr l.length (fun j => if j < k then (if (Mk.rk l j : Int) < m then 1 else 0) else 0)) := hb
    clear hb hmk
    have hgw : g < w.heap.size := World.rowIs.lt HRow.out
    by_cases hlt : k < l.length
    · have rc := World.rowIs.cell (row_below HRow.out Hb.out.below hgw) hlt
      have gc := Hb.out.row.cell hlt
      have gf := Hb.out.row.frozen k
      simp only [Nat.lt_irrefl, if_false] at gc
      have hlt' : (k : Int) < (l.length : Int) := by omega
      by_cases hm : (Mk.rk l k : Int) < m
      · have HM : Hid ((if (Mk.rk l k : Int) < m then (1 : Int) else 0) = 1) := if_pos hm
        go_wp2
        go_roundw
        case rel =>
          refine ⟨k + 1, by omega, by go_num, (Hb.out.set k _).congr (fun j _ => ?_)⟩
          exact Mk.step_on (G := fun j => if (Mk.rk l j : Int) < m then (1 : Int) else 0) (k := k) HM.out j
        case measure => simp [intOf]; omega
      · have HM : Hid ((if (Mk.rk l k : Int) < m then (1 : Int) else 0) = 0) := if_neg hm
        go_wp2
        go_roundw
        case rel =>
          refine ⟨k + 1, by omega, by go_num, Hb.out.congr (fun j _ => ?_)⟩
          exact Mk.step_off (G := fun j => if (Mk.rk l j : Int) < m then (1 : Int) else 0) (k := k) HM.out j
        case measure => simp [intOf]; omega
    · obtain rfl : k = l.length := by omega
      go_wp2
      go_ret
      exact ⟨rfl, Hb.out.congr (fun j hj => by rw [if_pos hj])⟩

end Go.Proofs.YtmebcdpdpcpnmaaGreatDoor
