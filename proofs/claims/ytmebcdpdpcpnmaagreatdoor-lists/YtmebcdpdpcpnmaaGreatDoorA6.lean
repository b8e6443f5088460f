import Derived.Test.YtmebcdpdpcpnmaaGreatDoorA5
namespace Go.Proofs.YtmebcdpdpcpnmaaGreatDoor
open Go.RowKit

/-- bestLevel's memory at a round's head: its result's block, its best level's block B -/
structure Bs (w wr : World) (B : Nat) (p d s : Int) : Prop where
  below : Below w.heap.size w wr
  lt : w.heap.size < B
  res : LvAt wr w.heap.size 0 0 0
  lv : LvAt wr B p d s

theorem Bs.next {w wr w' : World} {B : Nat} {p d s : Int} (h : Bs w wr B p d s) (hb : Below wr.heap.size wr w') : Bs w w' B p d s :=
  ⟨h.below.trans (hb.mono h.below.size), h.lt, h.res.below hb h.res.lt, h.lv.below hb h.lv.lt⟩
theorem Bs.alloc {w wr : World} {B : Nat} {p d s : Int} (h : Bs w wr B p d s) (o : Obj) : Bs w (wr.alloc o) B p d s :=
  h.next ((Below.refl _ _).alloc (Nat.le_refl _) o)
theorem Bs.set {w wr : World} {B : Nat} {p d s : Int} (h : Bs w wr B p d s) (p' d' s' : Int) : Bs w (((wr.setCell ⟨B, 0, none⟩ (.int .i64 p')).setCell ⟨B, 1, none⟩ (.int .i64 d')).setCell ⟨B, 2, none⟩ (.int .i64 s')) B p' d' s' := by
  have hl := h.lt
  exact ⟨((h.below.setCell (by show _ ≤ B; omega) _).setCell (by show _ ≤ B; omega) _).setCell (by show _ ≤ B; omega) _, h.lt, ((h.res.setOther _ (by omega)).setOther _ (by omega)).setOther _ (by omega), h.lv.set _ _ _⟩

set_option maxHeartbeats 1000000 in
theorem bestLevel_any (a : Option Addr) (cap : Nat) (l : List Mk.Ord) (w : World) (hv : Mk.validB 20 l = true) (hR : Rd w a l) :
    Calls Tryz.prog 58 #[.slice a l.length cap] w fun e w' => e = .returned (.agg #[.int .i64 (Mk.best l 98), .int .i64 (Mk.dem l (Mk.best l 98)), .int .i64 (Mk.sup l (Mk.best l 98))]) ∧ Below w.heap.size w w' := by
  have HV : Hid (Mk.validB 20 l = true) := hv
  have HR : Hid (Rd w a l) := hR
  clear hv hR
  go_enter Tryz.func58, Tryz.ntmps58
  go_wp2_with fail
  refine (levelAt_any a cap l _ _ HV.out (HR.out.below ((Below.refl _ _).alloc (Nat.le_refl _) _))).mono ?_
  rintro e w1 ⟨rfl, hb1⟩
  have hz1 : w.heap.size < w1.heap.size := by have := hb1.size; simp at this; omega
  have hB : Bs w (w1.alloc (.cells #[.int .i64 1, .int .i64 (Mk.dem l 1), .int .i64 (Mk.sup l 1)] 126)) w1.heap.size 1 (Mk.dem l 1) (Mk.sup l 1) := by
    refine ⟨(((Below.refl _ _).alloc (Nat.le_refl _) _).trans (hb1.mono (by simp))).alloc (by omega) _, hz1, ?_, LvAt.born _ _ _ _ _⟩
    exact ((LvAt.born w 0 0 0 126).below hb1 (by simp)).alloc _
  have HB : Hid (Bs w (w1.alloc (.cells #[.int .i64 1, .int .i64 (Mk.dem l 1), .int .i64 (Mk.sup l 1)] 126)) w1.heap.size 1 (Mk.dem l 1) (Mk.sup l 1)) := hB
  clear hB hb1
  go_wp2_with fail
  go_loopw [4] (fun i wr => ∃ k : Nat, k ≤ 98 ∧ i = .int .i64 ((k : Int) + 2) ∧ Bs w wr w1.heap.size (Mk.best l k) (Mk.dem l (Mk.best l k)) (Mk.sup l (Mk.best l k))) (fun i _ => 100 - (intOf i).toNat)
  case atStart => exact ⟨0, by omega, rfl, HB.out⟩
  case round =>
    obtain ⟨k, hk, rfl, hb⟩ := hrel
    have Hb : Hid (Bs w wr w1.heap.size (Mk.best l k) (Mk.dem l (Mk.best l k)) (Mk.sup l (Mk.best l k))) := hb
    obtain ⟨_, hsz, ⟨r0, r1, r2, g0, g1, g2⟩, ⟨e0, e1, e2, f0, f1, f2⟩⟩ := hb
    have hl1 := Hb.out.res.lt
    have hl2 := Hb.out.lv.lt
    by_cases hlt : k < 98
    · have hlt' : ((k : Int) + 2) ≤ 99 := by omega
      have bd := Mk.dem_bd HV.out ((k : Int) + 2)
      have bs := Mk.sup_bd HV.out ((k : Int) + 2)
      have bd' := Mk.dem_bd HV.out (Mk.best l k)
      have bs' := Mk.sup_bd HV.out (Mk.best l k)
      go_wp2_with fail
      refine (levelAt_any a cap l _ _ HV.out (HR.out.below Hb.out.below)).mono ?_
      rintro e w2 ⟨rfl, hb2⟩
      have H2 : Hid (Bs w (w2.alloc (.cells #[.int .i64 ((k : Int) + 2), .int .i64 (Mk.dem l ((k : Int) + 2)), .int .i64 (Mk.sup l ((k : Int) + 2))] 126)) w1.heap.size (Mk.best l k) (Mk.dem l (Mk.best l k)) (Mk.sup l (Mk.best l k))) := (Hb.out.next hb2).alloc _
      obtain ⟨_, _, _, ⟨a0, a1, a2, b0, b1, b2⟩⟩ := Hb.out.next hb2
      have hl3 : w1.heap.size < w2.heap.size := by have := hb2.size; omega
      clear hb2
      go_wp2_with fail
      refine (isBetter_any _ _ _ _ _ _ _ (by omega) (by omega) (by omega) (by omega) (by omega) (by omega) (by omega) (by omega)).mono ?_
      rintro e w3 ⟨rfl, hb3⟩
      have H3 : Hid (Bs w w3 w1.heap.size (Mk.best l k) (Mk.dem l (Mk.best l k)) (Mk.sup l (Mk.best l k))) := H2.out.next hb3
      obtain ⟨_, _, _, ⟨a0', a1', a2', b0', b1', b2'⟩⟩ := H3.out
      obtain ⟨n0, n1, n2, m0, m1, m2⟩ := (LvAt.born w2 ((k : Int) + 2) (Mk.dem l ((k : Int) + 2)) (Mk.sup l ((k : Int) + 2)) 126).below hb3 (by simp)
      clear hb3
      have hne : w1.heap.size ≠ w2.heap.size := by omega
      rcases hbt : Mk.betterB (Mk.dem l ((k : Int) + 2)) (Mk.sup l ((k : Int) + 2)) (Mk.dem l (Mk.best l k)) (Mk.sup l (Mk.best l k)) with _ | _
      · have HT : Hid (Mk.best l (k + 1) = Mk.best l k) := Mk.best_no l k hbt
        go_wp2
        go_roundw
        case rel => exact ⟨k + 1, by omega, by go_num, by rw [HT.out]; exact H3.out⟩
        case measure => simp [intOf]; omega
      · have HT : Hid (Mk.best l (k + 1) = k + 2) := Mk.best_yes l k hbt
        go_wp2
        go_roundw
        case rel => exact ⟨k + 1, by omega, by go_num, by rw [HT.out]; exact H3.out.set _ _ _⟩
        case measure => simp [intOf]; omega
    · have : k = 98 := by omega
      subst this
      go_wp2
      refine bodyPost_ret (v := .agg #[.int .i64 (Mk.best l 98), .int .i64 (Mk.dem l (Mk.best l 98)), .int .i64 (Mk.sup l (Mk.best l 98))]) ?_ rfl ⟨rfl, ((Hb.out.below.setCell (by simp) _).setCell (by simp) _).setCell (by simp) _⟩
      obtain ⟨q0, q1, q2, _, _, _⟩ := Hb.out.res.set (Mk.best l 98) (Mk.dem l (Mk.best l 98)) (Mk.sup l (Mk.best l 98))
      simp [results, Tryz.results58, go_sem, q0, q1, q2]

end Go.Proofs.YtmebcdpdpcpnmaaGreatDoor
