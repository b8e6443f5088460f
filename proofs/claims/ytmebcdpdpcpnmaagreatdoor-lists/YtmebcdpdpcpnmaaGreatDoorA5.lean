import Derived.Test.YtmebcdpdpcpnmaaGreatDoorA4
import Derived.Test.YtmebcdpdpcpnmaaGreatDoorPlain2
namespace Go.Proofs.YtmebcdpdpcpnmaaGreatDoor
open Go.RowKit

set_option maxHeartbeats 1000000 in
theorem levelAt_nil (a : Option Addr) (cap : Nat) (p : Int) (w : World) :
    Calls Tryz.prog 88 #[.slice a 0 cap, .int .i64 p] w fun e w' => e = .returned (.agg #[.int .i64 p, .int .i64 0, .int .i64 0]) ∧ Below w.heap.size w w' := by
  go_enter Tryz.func88, Tryz.ntmps88
  go_wp2
  go_loop [12] (fun i => i = .int .i64 0) (fun i => 0)
  case atStart => rfl
  case round =>
    subst hrel
    go_wp2
    refine bodyPost_ret (v := .agg #[.int .i64 p, .int .i64 0, .int .i64 0]) ?_ rfl ⟨rfl, ?_⟩
    · simp [results, Tryz.results88, go_sem]
    · exact ((Below.refl _ _).alloc (Nat.le_refl _) _).alloc (by simp) _

theorem levelAt_any (a : Option Addr) (cap : Nat) (l : List Mk.Ord) (p : Int) (w : World) (hv : Mk.validB 20 l = true) (hR : Rd w a l) :
    Calls Tryz.prog 88 #[.slice a l.length cap, .int .i64 p] w fun e w' => e = .returned (.agg #[.int .i64 p, .int .i64 (Mk.dem l p), .int .i64 (Mk.sup l p)]) ∧ Below w.heap.size w w' := by
  rcases hR with rfl | ⟨b, off, rfl, hR⟩
  · exact levelAt_nil a cap p w
  · exact levelAt_some b off cap l p w hv hR

set_option maxHeartbeats 1000000 in
theorem isBetter_any (p d s p' d' s' : Int) (w : World) (h1 : 0 ≤ d) (h2 : d ≤ 1000) (h3 : 0 ≤ s) (h4 : s ≤ 1000) (k1 : 0 ≤ d') (k2 : d' ≤ 1000) (k3 : 0 ≤ s') (k4 : s' ≤ 1000) :
    Calls Tryz.prog 89 #[.agg #[.int .i64 p, .int .i64 d, .int .i64 s], .agg #[.int .i64 p', .int .i64 d', .int .i64 s']] w fun e w' =>
      e = .returned (.bool (Mk.betterB d s d' s')) ∧ Below w.heap.size w w' := by
  by_cases hne : Mk.less d s = Mk.less d' s'
  · have hb : (Mk.less d s != Mk.less d' s') = false := by simp [hne]
    have HN : Hid (Mk.less d s = Mk.less d' s') := hne
    clear hne
    go_enter Tryz.func89, Tryz.ntmps89
    go_wp2_with (first | (go_at_call 59; refine (traded_any _ _ _ _).mono ?_; rintro e w' ⟨rfl, rfl⟩) | (go_at_call 112; refine (apart_any _ _ _ _ (by assumption) (by assumption) (by assumption) (by assumption)).mono ?_; rintro e w' ⟨rfl, rfl⟩))
    go_ret
    exact ⟨by simp [Mk.betterB, HN.out], by repeat (first | exact Below.refl _ _ | refine Below.alloc ?_ (by simp <;> omega) _)⟩
  · have hb : (Mk.less d s != Mk.less d' s') = true := by simp [hne]
    have HN : Hid (¬ Mk.less d s = Mk.less d' s') := hne
    clear hne
    go_enter Tryz.func89, Tryz.ntmps89
    go_wp2_with (go_at_call 59; refine (traded_any _ _ _ _).mono ?_; rintro e w' ⟨rfl, rfl⟩)
    go_ret
    exact ⟨by simp [Mk.betterB, HN.out], by repeat (first | exact Below.refl _ _ | refine Below.alloc ?_ (by simp <;> omega) _)⟩

/-- a level lies at block B -/
structure LvAt (w : World) (B : Nat) (p d s : Int) : Prop where
  c0 : w.cell? ⟨B, 0, none⟩ = some (.int .i64 p)
  c1 : w.cell? ⟨B, 1, none⟩ = some (.int .i64 d)
  c2 : w.cell? ⟨B, 2, none⟩ = some (.int .i64 s)
  f0 : w.frozen? ⟨B, 0, none⟩ = false
  f1 : w.frozen? ⟨B, 1, none⟩ = false
  f2 : w.frozen? ⟨B, 2, none⟩ = false

theorem LvAt.lt {w : World} {B : Nat} {p d s : Int} (h : LvAt w B p d s) : B < w.heap.size := blk_lt h.c0
theorem LvAt.below {w w' : World} {B n : Nat} {p d s : Int} (h : LvAt w B p d s) (hb : Below n w w') (hn : B < n) : LvAt w' B p d s :=
  ⟨(hb.cell (p := ⟨B, 0, none⟩) hn).trans h.c0, (hb.cell (p := ⟨B, 1, none⟩) hn).trans h.c1, (hb.cell (p := ⟨B, 2, none⟩) hn).trans h.c2, (hb.frozen (p := ⟨B, 0, none⟩) hn).trans h.f0, (hb.frozen (p := ⟨B, 1, none⟩) hn).trans h.f1, (hb.frozen (p := ⟨B, 2, none⟩) hn).trans h.f2⟩
theorem LvAt.alloc {w : World} {B : Nat} {p d s : Int} (h : LvAt w B p d s) (o : Obj) : LvAt (w.alloc o) B p d s :=
  h.below ((Below.refl w.heap.size w).alloc (Nat.le_refl _) o) h.lt
theorem LvAt.born (w : World) (p d s : Int) (t : TypeId) : LvAt (w.alloc (.cells #[.int .i64 p, .int .i64 d, .int .i64 s] t)) w.heap.size p d s :=
  ⟨by simp, by simp, by simp, by simp [go_sem], by simp [go_sem], by simp [go_sem]⟩
theorem LvAt.set {w : World} {B : Nat} {p d s : Int} (h : LvAt w B p d s) (p' d' s' : Int) : LvAt (((w.setCell ⟨B, 0, none⟩ (.int .i64 p')).setCell ⟨B, 1, none⟩ (.int .i64 d')).setCell ⟨B, 2, none⟩ (.int .i64 s')) B p' d' s' :=
  ⟨cell_set_ne (by omega) (cell_set_ne (by omega) (cell_set_same h.c0)), cell_set_ne (by omega) (cell_set_same (cell_set_ne (by omega) h.c1)), cell_set_same (cell_set_ne (by omega) (cell_set_ne (by omega) h.c2)), by simpa using h.f0, by simpa using h.f1, by simpa using h.f2⟩
theorem LvAt.setOther {w : World} {B : Nat} {p d s : Int} (h : LvAt w B p d s) {b o : Nat} (v : Value) (hne : B ≠ b) : LvAt (w.setCell ⟨b, o, none⟩ v) B p d s :=
  ⟨cell_set_ne (by omega) h.c0, cell_set_ne (by omega) h.c1, cell_set_ne (by omega) h.c2, by simpa using h.f0, by simpa using h.f1, by simpa using h.f2⟩

end Go.Proofs.YtmebcdpdpcpnmaaGreatDoor
