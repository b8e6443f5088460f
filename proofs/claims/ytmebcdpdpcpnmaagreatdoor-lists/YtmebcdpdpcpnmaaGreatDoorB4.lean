import Derived.Test.YtmebcdpdpcpnmaaGreatDoorB1
import Derived.Test.YtmebcdpdpcpnmaaGreatDoorB3
import Derived.Deep.RegionWith
namespace Go.Proofs.YtmebcdpdpcpnmaaGreatDoor
open Go.RowKit

theorem At.drew {w : World} {b off : Nat} {l : List Mk.Ord} (h : At w b off l) : At w.drew b off l := h
theorem LvAt.next {W W' w' : World} {B : Nat} {p d s : Int} (h : LvAt W B p d s) (e : W'.heap = W.heap) (hb : Below W'.heap.size W' w') : w'.cell? ⟨B, 0, none⟩ = some (.int .i64 p) := by
  have hl := h.lt
  rw [hb.cell (p := ⟨B, 0, none⟩) (by rw [e]; exact hl)]
  have := h.c0
  simpa [World.cell?, e] using this

set_option maxHeartbeats 1000000 in
theorem uniform_bad (a : Option Addr) (cap : Nat) (l : List Mk.Ord) (w : World) (hv : Mk.validB 20 l = false) (hR : Rd w a l) :
    Calls Tryz.prog 39 #[.slice a l.length cap] w fun e w' => e = .returned (.tuple #[.slice none 0 0, .int .i64 0, .int .i64 1]) ∧ Below w.heap.size w w' := by
  have HR : Hid (Rd w a l) := hR
  clear hR
  go_enter Tryz.func39, Tryz.ntmps39
  go_wp2_with (go_at_call 57; refine (isBatch_any a cap l _ HR.out).mono ?_; rintro e w1 ⟨rfl, hb1⟩)
  go_ret3
  exact ⟨rfl, by assumption⟩

set_option maxHeartbeats 1000000 in
theorem uniform_zero (a : Option Addr) (cap : Nat) (l : List Mk.Ord) (w : World) (hv : Mk.validB 20 l = true) (hR : Rd w a l) (hz : Mk.vol l (Mk.best l 98) = 0) :
    Calls Tryz.prog 39 #[.slice a l.length cap] w fun e w' => ∃ g, e = .returned (.tuple #[.slice (some ⟨g, 0, none⟩) l.length l.length, .int .i64 0, .int .i64 0]) ∧ w.heap.size ≤ g ∧ Below w.heap.size w w' ∧ w'.rowIs g 3 l.length (fun _ => .int .i64 0) := by
  have HR : Hid (Rd w a l) := hR
  have HV : Hid (Mk.validB 20 l = true) := hv
  have h12 := (Mk.ok_of_valid hv).1
  have hz' : (Mk.less (Mk.dem l (Mk.best l 98)) (Mk.sup l (Mk.best l 98)) == 0) = true := by simpa [Mk.vol] using hz
  have hmk := run_make_row' (P := Tryz.prog) 53 3 (.int .i64 0) 8 Tryz.underlying53 Tryz.infoInt rfl .i64 .i64 l.length (by omega) (by omega)
  clear hR hz
  go_enter Tryz.func39, Tryz.ntmps39
  go_wp2_with fail
  refine (isBatch_any a cap l _ HR.out).mono ?_
  rintro e w1 ⟨rfl, hb1⟩
  have Hb1 : Hid (Below w.heap.size w w1) := hb1
  clear hb1
  go_wp2_with fail
  refine (bestLevel_any a cap l _ HV.out (HR.out.below Hb1.out)).mono ?_
  rintro e w2 ⟨rfl, hb2⟩
  have Hb2 : Hid (Below w.heap.size w w2) := Hb1.out.trans (hb2.mono Hb1.out.size)
  clear hb2
  go_wp2_with (go_at_call 59; refine (traded_any _ _ _ _).mono ?_; rintro e w' ⟨rfl, rfl⟩)
  go_ret3
  have hs := Hb2.out.size
  have hrow := World.rowIs_made ((w2.alloc (.cells #[.int .i64 (Mk.best l 98), .int .i64 (Mk.dem l (Mk.best l 98)), .int .i64 (Mk.sup l (Mk.best l 98))] 126)).alloc (.cells #[.int .i64 (Mk.best l 98), .int .i64 (Mk.dem l (Mk.best l 98)), .int .i64 (Mk.sup l (Mk.best l 98))] 126)) (.int .i64 0) l.length 3
  simp only [World.size_alloc] at hrow
  refine ⟨w2.heap.size + 1 + 1, rfl, ?_, ?_, hrow⟩
  · omega
  · exact ((Hb2.out.alloc hs _).alloc (by simp; omega) _).alloc (by simp; omega) _

set_option maxHeartbeats 1000000 in
theorem uniform_some (b off cap : Nat) (l : List Mk.Ord) (w : World) (hv : Mk.validB 20 l = true) (hR : At w b off l) (hz : Mk.vol l (Mk.best l 98) ≠ 0) :
    Calls Tryz.prog 39 #[.slice (some ⟨b, off, none⟩) l.length cap] w fun e w' => ∃ g, e = .returned (.tuple #[.slice (some ⟨g, 0, none⟩) l.length l.length, .int .i64 (Mk.best l 98), .int .i64 0]) ∧ w.heap.size ≤ g ∧ Below w.heap.size w w' ∧ w'.rowIs g 3 l.length (fun i => .int .i64 (Mk.getsf l (Mk.dem l (Mk.best l 98)) (Mk.sup l (Mk.best l 98)) (Mk.best l 98) i)) := by
  have HR : Hid (At w b off l) := hR
  have HV : Hid (Mk.validB 20 l = true) := hv
  have hz' : (Mk.less (Mk.dem l (Mk.best l 98)) (Mk.sup l (Mk.best l 98)) == 0) = false := by simpa [Mk.vol] using hz
  clear hR hz
  go_enter Tryz.func39, Tryz.ntmps39
  go_wp2_with fail
  refine (isBatch_any _ cap l _ (.inr ⟨b, off, rfl, HR.out⟩)).mono ?_
  rintro e w1 ⟨rfl, hb1⟩
  have Hb1 : Hid (Below w.heap.size w w1) := hb1
  clear hb1
  go_wp2_with fail
  refine (bestLevel_any _ cap l _ HV.out (.inr ⟨b, off, rfl, HR.out.below Hb1.out⟩)).mono ?_
  rintro e w2 ⟨rfl, hb2⟩
  have Hb2 : Hid (Below w.heap.size w w2) := Hb1.out.trans (hb2.mono Hb1.out.size)
  clear hb2
  go_wp2_with (go_at_call 59; refine (traded_any _ _ _ _).mono ?_; rintro e w' ⟨rfl, rfl⟩)
  have hs := Hb2.out.size
  have HBW : Hid (Below w.heap.size w _) := (Hb2.out.alloc hs (.cells #[.int .i64 (Mk.best l 98), .int .i64 (Mk.dem l (Mk.best l 98)), .int .i64 (Mk.sup l (Mk.best l 98))] 126)).alloc (by simp; omega) (.cells #[.int .i64 (Mk.best l 98), .int .i64 (Mk.dem l (Mk.best l 98)), .int .i64 (Mk.sup l (Mk.best l 98))] 126)
  have HLV : Hid (LvAt _ w2.heap.size _ _ _) := (LvAt.born w2 (Mk.best l 98) (Mk.dem l (Mk.best l 98)) (Mk.sup l (Mk.best l 98)) 126).alloc (.cells #[.int .i64 (Mk.best l 98), .int .i64 (Mk.dem l (Mk.best l 98)), .int .i64 (Mk.sup l (Mk.best l 98))] 126)
  have HAt : Hid (At _ b off l) := HR.out.below HBW.out
  generalize (w2.alloc (.cells #[.int .i64 (Mk.best l 98), .int .i64 (Mk.dem l (Mk.best l 98)), .int .i64 (Mk.sup l (Mk.best l 98))] 126)).alloc (.cells #[.int .i64 (Mk.best l 98), .int .i64 (Mk.dem l (Mk.best l 98)), .int .i64 (Mk.sup l (Mk.best l 98))] 126) = W at *
  obtain ⟨l0, l1, l2, _, _, _⟩ := HLV.out
  go_region_with (go_at_call 60; (refine (shares_some b off cap l _ _ _ _ HV.out (Mk.dem_bd HV.out _) (Mk.sup_bd HV.out _) ?_).mono ?_; exact HAt.out.drew; rintro e w' ⟨rfl, hb', hrow⟩; have q0 := LvAt.next (W' := W.drew) HLV.out rfl hb'))
  all_goals
    go_wp2
    go_ret3
    refine ⟨W.heap.size + 1, rfl, ?_, HBW.out.drew.trans (Below.mono hb' HBW.out.size), hrow⟩
    have := HBW.out.size
    omega

theorem Mk.vol_nil (p : Int) : Mk.vol [] p = 0 := by simp [Mk.vol, Mk.dem, Mk.sup, Mk.sumf, Mk.less]

/-- market.Uniform of a batch: its price, what each order gets -/
def Mk.price (l : List Mk.Ord) : Int := if Mk.vol l (Mk.best l 98) = 0 then 0 else Mk.best l 98
def Mk.uni (l : List Mk.Ord) (i : Nat) : Int := if Mk.vol l (Mk.best l 98) = 0 then 0 else Mk.getsf l (Mk.dem l (Mk.best l 98)) (Mk.sup l (Mk.best l 98)) (Mk.best l 98) i

theorem uniform_any (a : Option Addr) (cap : Nat) (l : List Mk.Ord) (w : World) (hv : Mk.validB 20 l = true) (hR : Rd w a l) :
    Calls Tryz.prog 39 #[.slice a l.length cap] w fun e w' => ∃ g, e = .returned (.tuple #[.slice (some ⟨g, 0, none⟩) l.length l.length, .int .i64 (Mk.price l), .int .i64 0]) ∧ w.heap.size ≤ g ∧ Below w.heap.size w w' ∧ w'.rowIs g 3 l.length (fun i => .int .i64 (Mk.uni l i)) := by
  by_cases hz : Mk.vol l (Mk.best l 98) = 0
  · unfold Mk.price Mk.uni
    simp only [hz, if_true]
    exact uniform_zero a cap l w hv hR hz
  · rcases hR with rfl | ⟨b, off, rfl, hR⟩
    · exact absurd (Mk.vol_nil _) hz
    · unfold Mk.price Mk.uni
      simp only [hz, if_false]
      exact uniform_some b off cap l w hv hR hz

end Go.Proofs.YtmebcdpdpcpnmaaGreatDoor
