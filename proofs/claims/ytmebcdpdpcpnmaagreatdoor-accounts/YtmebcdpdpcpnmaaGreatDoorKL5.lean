import Derived.Test.YtmebcdpdpcpnmaaGreatDoorJ5
import Derived.Test.YtmebcdpdpcpnmaaGreatDoorKK4
import Derived.Test.YtmebcdpdpcpnmaaGreatDoorKN3
namespace Go.Proofs.YtmebcdpdpcpnmaaGreatDoor
open Go.RowKit

/-- a step of a script, as a value -/
abbrev opV (kind m a b : Int) (s : ByteArray) (oa : Option Addr) (n cap : Nat) : Value := .agg #[.int .i64 kind, .int .i64 m, .int .i64 a, .int .i64 b, .string s, .slice oa n cap]

/-- what a step leaves -/
def Left (G : Gst) (w : World) (B : Nat) (o : Outs) (e : Ending) (w' : World) : Prop := e = .returned (.bool true) ∧ ∃ o' vo' vw', o'.m ≤ o.m + 1 ∧ St G w' B o' vo' vw' ∧ Below B w w'

theorem St.lt {G : Gst} {w : World} {B : Nat} {o : Outs} {vo vw : Value} (h : St G w B o vo vw) : B < w.heap.size := h.pt.lt

set_option maxRecDepth 100000 in
set_option maxHeartbeats 2000000 in
theorem lists_uniform {G : Gst} (B : Nat) (o : Outs) (vo vw : Value) (m a b : Int) (s : ByteArray) (oa : Option Addr) (cap : Nat) (l : List Mk.Ord) (w : World) (hm : o.m ≤ 1048576) (hn : l.length ≤ 1048576) (hR : Rd w oa l) (hS : St G w B o vo vw) :
    Calls Tryz.prog 15 #[.pointer (some ⟨B, 0, none⟩), opV 1 m a b s oa l.length cap] w fun e w' => Left G w B o e w' := by
  have HS : Hid (St G w B o vo vw) := hS
  have HR : Hid (Rd w oa l) := hR
  have hBw := hS.lt
  clear hS hR
  have HB1 : Hid (∀ ob, Below w.heap.size w (w.alloc ob)) := fun ob => (Below.refl _ _).alloc (Nat.le_refl _) _
  rcases Bool.eq_false_or_eq_true (Mk.validB 20 l) with hv | hv
  · have h12 := (Mk.ok_of_valid hv).1
    by_cases h0 : l.length = 0
    · have hl : l = [] := List.eq_nil_of_length_eq_zero h0
      subst hl
      go_enter Tryz.func15, Tryz.ntmps15
      go_wp2_with fail
      refine (luniform_ok oa cap [] _ hv (HR.out.below (HB1.out _))).mono ?_
      rintro e w2 ⟨g, rfl, hg, hb2, hrow⟩
      have HB2 : Hid (Below w.heap.size w w2) := (HB1.out _).trans (hb2.mono (by simp))
      clear hb2 hrow hg
      go_wp2_with fail
      refine (keep_none B _ _).mono ?_
      rintro e w3 ⟨rfl, hw3⟩
      obtain rfl := hw3.symm
      go_wp2
      go_ret
      exact ⟨rfl, o, vo, vw, by omega, HS.out.below HB2.out, HB2.out.mono (by omega)⟩
    · go_enter Tryz.func15, Tryz.ntmps15
      go_wp2_with fail
      refine (luniform_ok oa cap l _ hv (HR.out.below (HB1.out _))).mono ?_
      rintro e w2 ⟨g, rfl, hg, hb2, hrow⟩
      have HB2 : Hid (Below w.heap.size w w2) := (HB1.out _).trans (hb2.mono (by simp))
      have hg' : w.heap.size ≤ g := by simp at hg; omega
      have HRow : Hid (w2.rowIs g 3 l.length (fun i => .int .i64 (Mk.uni l i))) := hrow
      clear hb2 hrow hg
      go_wp2_with fail
      refine (keep_some B g l.length o vo vw (Mk.uni l) _ (HS.out.below HB2.out) HRow.out (by omega) (by omega) (fun i hi => Nat.lt_of_lt_of_le (HS.out.rh i hi).lt hg') hm (fun h => by have := (HS.out.pt.gst _ h).1; omega)).mono ?_
      rintro e w3 ⟨rfl, vo', vw', hS3, hb3⟩
      have HS3 := (show Hid _ from hS3)
      have HB3 : Hid (Below B w w3) := (HB2.out.mono (by omega)).trans hb3
      clear hS3 hb3
      go_wp2
      go_ret
      exact ⟨rfl, _, vo', vw', Nat.le_refl _, HS3.out, HB3.out⟩
  · go_enter Tryz.func15, Tryz.ntmps15
    go_wp2_with fail
    refine (luniform_bad oa cap l _ hn hv (HR.out.below (HB1.out _))).mono ?_
    rintro e w2 ⟨rfl, hb2⟩
    have HB2 : Hid (Below w.heap.size w w2) := (HB1.out _).trans (hb2.mono (by simp))
    clear hb2
    go_wp2_with fail
    refine (keep_none B _ _).mono ?_
    rintro e w3 ⟨rfl, hw3⟩
    obtain rfl := hw3.symm
    go_wp2
    go_ret
    exact ⟨rfl, o, vo, vw, by omega, HS.out.below HB2.out, HB2.out.mono (by omega)⟩

set_option maxRecDepth 100000 in
set_option maxHeartbeats 2000000 in
theorem lists_mcafee {G : Gst} (B : Nat) (o : Outs) (vo vw : Value) (m a b : Int) (s : ByteArray) (oa : Option Addr) (cap : Nat) (l : List Mk.Ord) (w : World) (hm : o.m ≤ 1048576) (hn : l.length ≤ 1048576) (hR : Rd w oa l) (hS : St G w B o vo vw) :
    Calls Tryz.prog 15 #[.pointer (some ⟨B, 0, none⟩), opV 2 m a b s oa l.length cap] w fun e w' => Left G w B o e w' := by
  have HS : Hid (St G w B o vo vw) := hS
  have HR : Hid (Rd w oa l) := hR
  have hBw := hS.lt
  clear hS hR
  have HB1 : Hid (∀ ob, Below w.heap.size w (w.alloc ob)) := fun ob => (Below.refl _ _).alloc (Nat.le_refl _) _
  rcases Bool.eq_false_or_eq_true (Mk.validB 1 l) with hv | hv
  · have h12 := (Mk.ok_of_valid hv).1
    by_cases h0 : l.length = 0
    · have hl : l = [] := List.eq_nil_of_length_eq_zero h0
      subst hl
      go_enter Tryz.func15, Tryz.ntmps15
      go_wp2_with fail
      refine (lmcafee_ok oa cap [] _ hv (HR.out.below (HB1.out _))).mono ?_
      rintro e w2 ⟨g, rfl, hg, hb2, hrow⟩
      have HB2 : Hid (Below w.heap.size w w2) := (HB1.out _).trans (hb2.mono (by simp))
      clear hb2 hrow hg
      go_wp2_with fail
      refine (keep_none B _ _).mono ?_
      rintro e w3 ⟨rfl, hw3⟩
      obtain rfl := hw3.symm
      go_wp2
      go_ret
      exact ⟨rfl, o, vo, vw, by omega, HS.out.below HB2.out, HB2.out.mono (by omega)⟩
    · go_enter Tryz.func15, Tryz.ntmps15
      go_wp2_with fail
      refine (lmcafee_ok oa cap l _ hv (HR.out.below (HB1.out _))).mono ?_
      rintro e w2 ⟨g, rfl, hg, hb2, hrow⟩
      have HB2 : Hid (Below w.heap.size w w2) := (HB1.out _).trans (hb2.mono (by simp))
      have hg' : w.heap.size ≤ g := by simp at hg; omega
      have HRow : Hid (w2.rowIs g 3 l.length (fun i => .int .i64 (Mk.mcF l i))) := hrow
      clear hb2 hrow hg
      go_wp2_with fail
      refine (keep_some B g l.length o vo vw (Mk.mcF l) _ (HS.out.below HB2.out) HRow.out (by omega) (by omega) (fun i hi => Nat.lt_of_lt_of_le (HS.out.rh i hi).lt hg') hm (fun h => by have := (HS.out.pt.gst _ h).1; omega)).mono ?_
      rintro e w3 ⟨rfl, vo', vw', hS3, hb3⟩
      have HS3 := (show Hid _ from hS3)
      have HB3 : Hid (Below B w w3) := (HB2.out.mono (by omega)).trans hb3
      clear hS3 hb3
      go_wp2
      go_ret
      exact ⟨rfl, _, vo', vw', Nat.le_refl _, HS3.out, HB3.out⟩
  · go_enter Tryz.func15, Tryz.ntmps15
    go_wp2_with fail
    refine (lmcafee_bad oa cap l _ hn hv (HR.out.below (HB1.out _))).mono ?_
    rintro e w2 ⟨rfl, hb2⟩
    have HB2 : Hid (Below w.heap.size w w2) := (HB1.out _).trans (hb2.mono (by simp))
    clear hb2
    go_wp2_with fail
    refine (keep_none B _ _).mono ?_
    rintro e w3 ⟨rfl, hw3⟩
    obtain rfl := hw3.symm
    go_wp2
    go_ret
    exact ⟨rfl, o, vo, vw, by omega, HS.out.below HB2.out, HB2.out.mono (by omega)⟩

/-- the numbers of list k, cell i turned to v -/
def Outs.put (o : Outs) (k i : Nat) (v : Int) : Outs := ⟨o.m, o.g, o.h, o.n, fun a => if a = k then fun j => if j = i then v else o.F k j else o.F a⟩

theorem St.order {G : Gst} {w : World} {B : Nat} {o : Outs} {vo vw : Value} (hS : St G w B o vo vw) {i k : Nat} (hi : i < o.m) (hk : k < o.m) (hne : i ≠ k) : o.g i ≠ o.g k ∧ o.h i ≠ o.h k ∧ o.g i ≠ o.h k ∧ o.h i ≠ o.g k := by
  have a := hS.gh i hi
  have b := hS.gh k hk
  rcases Nat.lt_or_gt_of_ne hne with h | h
  · have c := hS.hg i k h hk
    omega
  · have c := hS.hg k i h hi
    omega
theorem St.put1 {G : Gst} {w : World} {B : Nat} {o : Outs} {vo vw : Value} (hS : St G w B o vo vw) {k i : Nat} (hk : k < o.m) (v : Int) :
    Pt G (w.setCell ⟨o.g k, i, none⟩ (.int .i64 v)) B vo o.m (sls o.g o.n o.m) vw o.m (sls o.h o.n o.m) := hS.pt.setRow (hS.rg k hk) (hS.lo k hk) (hS.gx k hk).1 _
theorem St.put {G : Gst} {w : World} {B : Nat} {o : Outs} {vo vw : Value} (hS : St G w B o vo vw) {k i : Nat} (hk : k < o.m) (v : Int) :
    St G ((w.setCell ⟨o.g k, i, none⟩ (.int .i64 v)).setCell ⟨o.h k, i, none⟩ (.int .i64 v)) B (o.put k i v) vo vw := by
  have hgh := hS.gh k hk
  have hlo := hS.lo k hk
  have hrh : (w.setCell ⟨o.g k, i, none⟩ (.int .i64 v)).rowIs (o.h k) 3 (o.n k) (fun j => .int .i64 (o.F k j)) := (hS.rh k hk).setOther (by show o.h k ≠ o.g k; omega) _
  refine ⟨(hS.put1 hk v).setRow hrh (by omega) (hS.gx k hk).2 _, ?_, ?_, hS.pos, hS.lo, hS.gh, hS.hg, hS.gx⟩
  · intro a ha
    by_cases e : a = k
    · subst e
      refine World.rowIs.congr ((World.rowIs.set (hS.rg a hk) i (.int .i64 v)).setOther (by show o.g a ≠ o.h a; omega) _) (fun j _ => ?_)
      simp only [Outs.put, if_true]
      by_cases e2 : j = i <;> simp [e2]
    · obtain ⟨n1, n2, n3, n4⟩ := hS.order ha hk e
      refine World.rowIs.congr (((hS.rg a ha).setOther (by show o.g a ≠ o.g k; exact n1) _).setOther (by show o.g a ≠ o.h k; exact n3) _) (fun j _ => ?_)
      simp only [Outs.put, e, if_false]
  · intro a ha
    by_cases e : a = k
    · subst e
      refine World.rowIs.congr (World.rowIs.set hrh i (.int .i64 v)) (fun j _ => ?_)
      simp only [Outs.put, if_true]
      by_cases e2 : j = i <;> simp [e2]
    · obtain ⟨n1, n2, n3, n4⟩ := hS.order ha hk e
      refine World.rowIs.congr (((hS.rh a ha).setOther (by show o.h a ≠ o.g k; exact n4) _).setOther (by show o.h a ≠ o.h k; exact n2) _) (fun j _ => ?_)
      simp only [Outs.put, e, if_false]

/-- pick, its answer told ahead of the world -/
theorem pick_fix (c : Int) (n : Nat) (h1 : -9223372036854775808 ≤ c) (h2 : c ≤ 9223372036854775807) (hn : 1 ≤ n) (hn2 : n ≤ 100000000) :
    ∃ i : Nat, i < n ∧ ∀ w, Calls Tryz.prog 21 #[.int .i64 c, .int .i64 n] w fun e w' => e = .returned (.int .i64 i) ∧ w' = w := by
  by_cases h : c < 0
  · obtain ⟨i, hi, he⟩ := pick_nat (x := -(c + 1)) hn
    have he' := (pick_neg (n := n) h).trans he
    have HE : Hid (-(c + 1).tmod (n : Int) = i) := he'
    clear he he'
    refine ⟨i, hi, fun w => ?_⟩
    go_enter Tryz.func21, Tryz.ntmps21
    go_wp2
    go_ret
    exact ⟨ret_int HE.out, rfl⟩
  · obtain ⟨i, hi, he⟩ := pick_nat (x := c) hn
    have HE : Hid (c % (n : Int) = i) := he
    clear he
    refine ⟨i, hi, fun w => ?_⟩
    go_enter Tryz.func21, Tryz.ntmps21
    go_wp2
    go_ret
    exact ⟨ret_int HE.out, rfl⟩

end Go.Proofs.YtmebcdpdpcpnmaaGreatDoor
