import Derived.Test.YtljeahgpkeohlaaGreatDoorJ9
import Derived.Test.YtljeahgpkeohlaaGreatDoorJ37
namespace Go.Proofs.YtljeahgpkeohlaaGreatDoor
open Go.RowKit

/-- a step of a script, as a value -/
abbrev opV (kind m a b : Int) (s : ByteArray) (oa : Option Addr) (n cap : Nat) : Value := .agg #[.int .i64 kind, .int .i64 m, .int .i64 a, .int .i64 b, .string s, .slice oa n cap]

/-- what a step leaves -/
def Left (w : World) (B : Nat) (o : Outs) (e : Ending) (w' : World) : Prop := e = .returned (.bool true) ∧ ∃ o' vo' vw', o'.m ≤ o.m + 1 ∧ St w' B o' vo' vw' ∧ Below B w w'

theorem St.lt {w : World} {B : Nat} {o : Outs} {vo vw : Value} (h : St w B o vo vw) : B < w.heap.size := h.pt.lt

set_option maxRecDepth 100000 in
set_option maxHeartbeats 2000000 in
theorem lists_uniform (B : Nat) (o : Outs) (vo vw : Value) (m a b : Int) (s : ByteArray) (oa : Option Addr) (cap : Nat) (l : List Mk.Ord) (w : World) (hm : o.m ≤ 1048576) (hn : l.length ≤ 1048576) (hR : Rd w oa l) (hS : St w B o vo vw) :
    Calls Tryz.prog 13 #[.pointer (some ⟨B, 0, none⟩), opV 1 m a b s oa l.length cap] w fun e w' => Left w B o e w' := by
  have HS : Hid (St w B o vo vw) := hS
  have HR : Hid (Rd w oa l) := hR
  have hBw := hS.lt
  clear hS hR
  have HB1 : Hid (∀ ob, Below w.heap.size w (w.alloc ob)) := fun ob => (Below.refl _ _).alloc (Nat.le_refl _) _
  rcases Bool.eq_false_or_eq_true (Mk.validB 20 l) with hv | hv
  · have h12 := (Mk.ok_of_valid hv).1
    by_cases h0 : l.length = 0
    · have hl : l = [] := List.eq_nil_of_length_eq_zero h0
      subst hl
      go_enter Tryz.func13, Tryz.ntmps13
      go_wp2_with fail
      refine (luniform_ok oa cap [] _ hv (HR.out.below (HB1.out _))).mono ?_
      rintro e w2 ⟨g, rfl, hg, hb2, hrow⟩
      have HB2 : Hid (Below w.heap.size w w2) := (HB1.out _).trans (hb2.mono (by simp))
      clear hb2 hrow hg
      go_wp2_with fail
      refine (keep_none B _ _).mono ?_
      rintro e w3 ⟨rfl, hw3⟩
      obtain rfl := hw3.symm
      go_wp2
      go_ret
      exact ⟨rfl, o, vo, vw, by omega, HS.out.below HB2.out, HB2.out.mono (by omega)⟩
    · go_enter Tryz.func13, Tryz.ntmps13
      go_wp2_with fail
      refine (luniform_ok oa cap l _ hv (HR.out.below (HB1.out _))).mono ?_
      rintro e w2 ⟨g, rfl, hg, hb2, hrow⟩
      have HB2 : Hid (Below w.heap.size w w2) := (HB1.out _).trans (hb2.mono (by simp))
      have hg' : w.heap.size ≤ g := by simp at hg; omega
      have HRow : Hid (w2.rowIs g 3 l.length (fun i => .int .i64 (Mk.uni l i))) := hrow
      clear hb2 hrow hg
      go_wp2_with fail
      refine (keep_some B g l.length o vo vw (Mk.uni l) _ (HS.out.below HB2.out) HRow.out (by omega) (by omega) (fun i hi => Nat.lt_of_lt_of_le (HS.out.rh i hi).lt hg') hm).mono ?_
      rintro e w3 ⟨rfl, vo', vw', hS3, hb3⟩
      have HS3 := (show Hid _ from hS3)
      have HB3 : Hid (Below B w w3) := (HB2.out.mono (by omega)).trans hb3
      clear hS3 hb3
      go_wp2
      go_ret
      exact ⟨rfl, _, vo', vw', Nat.le_refl _, HS3.out, HB3.out⟩
  · go_enter Tryz.func13, Tryz.ntmps13
    go_wp2_with fail
    refine (luniform_bad oa cap l _ hn hv (HR.out.below (HB1.out _))).mono ?_
    rintro e w2 ⟨rfl, hb2⟩
    have HB2 : Hid (Below w.heap.size w w2) := (HB1.out _).trans (hb2.mono (by simp))
    clear hb2
    go_wp2_with fail
    refine (keep_none B _ _).mono ?_
    rintro e w3 ⟨rfl, hw3⟩
    obtain rfl := hw3.symm
    go_wp2
    go_ret
    exact ⟨rfl, o, vo, vw, by omega, HS.out.below HB2.out, HB2.out.mono (by omega)⟩

set_option maxRecDepth 100000 in
set_option maxHeartbeats 2000000 in
theorem lists_mcafee (B : Nat) (o : Outs) (vo vw : Value) (m a b : Int) (s : ByteArray) (oa : Option Addr) (cap : Nat) (l : List Mk.Ord) (w : World) (hm : o.m ≤ 1048576) (hn : l.length ≤ 1048576) (hR : Rd w oa l) (hS : St w B o vo vw) :
    Calls Tryz.prog 13 #[.pointer (some ⟨B, 0, none⟩), opV 2 m a b s oa l.length cap] w fun e w' => Left w B o e w' := by
  have HS : Hid (St w B o vo vw) := hS
  have HR : Hid (Rd w oa l) := hR
  have hBw := hS.lt
  clear hS hR
  have HB1 : Hid (∀ ob, Below w.heap.size w (w.alloc ob)) := fun ob => (Below.refl _ _).alloc (Nat.le_refl _) _
  rcases Bool.eq_false_or_eq_true (Mk.validB 1 l) with hv | hv
  · have h12 := (Mk.ok_of_valid hv).1
    by_cases h0 : l.length = 0
    · have hl : l = [] := List.eq_nil_of_length_eq_zero h0
      subst hl
      go_enter Tryz.func13, Tryz.ntmps13
      go_wp2_with fail
      refine (lmcafee_ok oa cap [] _ hv (HR.out.below (HB1.out _))).mono ?_
      rintro e w2 ⟨g, rfl, hg, hb2, hrow⟩
      have HB2 : Hid (Below w.heap.size w w2) := (HB1.out _).trans (hb2.mono (by simp))
      clear hb2 hrow hg
      go_wp2_with fail
      refine (keep_none B _ _).mono ?_
      rintro e w3 ⟨rfl, hw3⟩
      obtain rfl := hw3.symm
      go_wp2
      go_ret
      exact ⟨rfl, o, vo, vw, by omega, HS.out.below HB2.out, HB2.out.mono (by omega)⟩
    · go_enter Tryz.func13, Tryz.ntmps13
      go_wp2_with fail
      refine (lmcafee_ok oa cap l _ hv (HR.out.below (HB1.out _))).mono ?_
      rintro e w2 ⟨g, rfl, hg, hb2, hrow⟩
      have HB2 : Hid (Below w.heap.size w w2) := (HB1.out _).trans (hb2.mono (by simp))
      have hg' : w.heap.size ≤ g := by simp at hg; omega
      have HRow : Hid (w2.rowIs g 3 l.length (fun i => .int .i64 (Mk.mcF l i))) := hrow
      clear hb2 hrow hg
      go_wp2_with fail
      refine (keep_some B g l.length o vo vw (Mk.mcF l) _ (HS.out.below HB2.out) HRow.out (by omega) (by omega) (fun i hi => Nat.lt_of_lt_of_le (HS.out.rh i hi).lt hg') hm).mono ?_
      rintro e w3 ⟨rfl, vo', vw', hS3, hb3⟩
      have HS3 := (show Hid _ from hS3)
      have HB3 : Hid (Below B w w3) := (HB2.out.mono (by omega)).trans hb3
      clear hS3 hb3
      go_wp2
      go_ret
      exact ⟨rfl, _, vo', vw', Nat.le_refl _, HS3.out, HB3.out⟩
  · go_enter Tryz.func13, Tryz.ntmps13
    go_wp2_with fail
    refine (lmcafee_bad oa cap l _ hn hv (HR.out.below (HB1.out _))).mono ?_
    rintro e w2 ⟨rfl, hb2⟩
    have HB2 : Hid (Below w.heap.size w w2) := (HB1.out _).trans (hb2.mono (by simp))
    clear hb2
    go_wp2_with fail
    refine (keep_none B _ _).mono ?_
    rintro e w3 ⟨rfl, hw3⟩
    obtain rfl := hw3.symm
    go_wp2
    go_ret
    exact ⟨rfl, o, vo, vw, by omega, HS.out.below HB2.out, HB2.out.mono (by omega)⟩

/-- the numbers of list k, cell i turned to v -/
def Outs.put (o : Outs) (k i : Nat) (v : Int) : Outs := ⟨o.m, o.g, o.h, o.n, fun a => if a = k then fun j => if j = i then v else o.F k j else o.F a⟩

theorem St.order {w : World} {B : Nat} {o : Outs} {vo vw : Value} (hS : St w B o vo vw) {i k : Nat} (hi : i < o.m) (hk : k < o.m) (hne : i ≠ k) : o.g i ≠ o.g k ∧ o.h i ≠ o.h k ∧ o.g i ≠ o.h k ∧ o.h i ≠ o.g k := by
  have a := hS.gh i hi
  have b := hS.gh k hk
  rcases Nat.lt_or_gt_of_ne hne with h | h
  · have c := hS.hg i k h hk
    omega
  · have c := hS.hg k i h hi
    omega
theorem St.put1 {w : World} {B : Nat} {o : Outs} {vo vw : Value} (hS : St w B o vo vw) {k i : Nat} (hk : k < o.m) (v : Int) :
    Pt (w.setCell ⟨o.g k, i, none⟩ (.int .i64 v)) B vo o.m (sls o.g o.n o.m) vw o.m (sls o.h o.n o.m) := hS.pt.setRow (hS.rg k hk) (hS.lo k hk) _
theorem St.put {w : World} {B : Nat} {o : Outs} {vo vw : Value} (hS : St w B o vo vw) {k i : Nat} (hk : k < o.m) (v : Int) :
    St ((w.setCell ⟨o.g k, i, none⟩ (.int .i64 v)).setCell ⟨o.h k, i, none⟩ (.int .i64 v)) B (o.put k i v) vo vw := by
  have hgh := hS.gh k hk
  have hlo := hS.lo k hk
  have hrh : (w.setCell ⟨o.g k, i, none⟩ (.int .i64 v)).rowIs (o.h k) 3 (o.n k) (fun j => .int .i64 (o.F k j)) := (hS.rh k hk).setOther (by show o.h k ≠ o.g k; omega) _
  refine ⟨(hS.put1 hk v).setRow hrh (by omega) _, ?_, ?_, hS.pos, hS.lo, hS.gh, hS.hg⟩
  · intro a ha
    by_cases e : a = k
    · subst e
      refine World.rowIs.congr ((World.rowIs.set (hS.rg a hk) i (.int .i64 v)).setOther (by show o.g a ≠ o.h a; omega) _) (fun j _ => ?_)
      simp only [Outs.put, if_true]
      by_cases e2 : j = i <;> simp [e2]
    · obtain ⟨n1, n2, n3, n4⟩ := hS.order ha hk e
      refine World.rowIs.congr (((hS.rg a ha).setOther (by show o.g a ≠ o.g k; exact n1) _).setOther (by show o.g a ≠ o.h k; exact n3) _) (fun j _ => ?_)
      simp only [Outs.put, e, if_false]
  · intro a ha
    by_cases e : a = k
    · subst e
      refine World.rowIs.congr (World.rowIs.set hrh i (.int .i64 v)) (fun j _ => ?_)
      simp only [Outs.put, if_true]
      by_cases e2 : j = i <;> simp [e2]
    · obtain ⟨n1, n2, n3, n4⟩ := hS.order ha hk e
      refine World.rowIs.congr (((hS.rh a ha).setOther (by show o.h a ≠ o.g k; exact n4) _).setOther (by show o.h a ≠ o.h k; exact n2) _) (fun j _ => ?_)
      simp only [Outs.put, e, if_false]

/-- pick, its answer told ahead of the world -/
theorem pick_fix (c : Int) (n : Nat) (h1 : -9223372036854775808 ≤ c) (h2 : c ≤ 9223372036854775807) (hn : 1 ≤ n) (hn2 : n ≤ 100000000) :
    ∃ i : Nat, i < n ∧ ∀ w, Calls Tryz.prog 19 #[.int .i64 c, .int .i64 n] w fun e w' => e = .returned (.int .i64 i) ∧ w' = w := by
  by_cases h : c < 0
  · obtain ⟨i, hi, he⟩ := pick_nat (x := -(c + 1)) hn
    have he' := (pick_neg (n := n) h).trans he
    have HE : Hid (-(c + 1).tmod (n : Int) = i) := he'
    clear he he'
    refine ⟨i, hi, fun w => ?_⟩
    go_enter Tryz.func19, Tryz.ntmps19
    go_wp2
    go_ret
    exact ⟨ret_int HE.out, rfl⟩
  · obtain ⟨i, hi, he⟩ := pick_nat (x := c) hn
    have HE : Hid (c % (n : Int) = i) := he
    clear he
    refine ⟨i, hi, fun w => ?_⟩
    go_enter Tryz.func19, Tryz.ntmps19
    go_wp2
    go_ret
    exact ⟨ret_int HE.out, rfl⟩

end Go.Proofs.YtljeahgpkeohlaaGreatDoor

namespace Go.Proofs.YtljeahgpkeohlaaGreatDoor
open Go.RowKit

set_option maxRecDepth 100000 in
set_option maxHeartbeats 2000000 in
theorem lists_write (B : Nat) (o : Outs) (vo vw : Value) (m a b : Int) (s : ByteArray) (oa : Option Addr) (n cap : Nat) (w : World) (hm : o.m ≤ 1048576) (hS : St w B o vo vw)
    (ha1 : -9223372036854775808 ≤ a) (ha2 : a ≤ 9223372036854775807) (hb1 : -9223372036854775808 ≤ b) (hb2 : b ≤ 9223372036854775807) :
    Calls Tryz.prog 13 #[.pointer (some ⟨B, 0, none⟩), opV 3 m a b s oa n cap] w fun e w' => Left w B o e w' := by
  obtain ⟨ao, co, rfl⟩ := own_form hS.pt.own1
  obtain ⟨aw, cw, rfl⟩ := own_form hS.pt.own2
  have HS : Hid (St w B o (.slice ao o.m co) (.slice aw o.m cw)) := hS
  have hBw := hS.lt
  have c1 := hS.pt.c1
  clear hS
  have HB1 : Hid (∀ ob, Below w.heap.size w (w.alloc ob)) := fun ob => (Below.refl _ _).alloc (Nat.le_refl _) _
  by_cases h0 : o.m = 0
  · have h0' : ¬ (0 : Int) < (o.m : Int) := by omega
    clear h0
    go_enter Tryz.func13, Tryz.ntmps13
    go_wp2
    go_ret
    exact ⟨rfl, o, _, _, by omega, HS.out.below (HB1.out _), (HB1.out _).mono (by omega)⟩
  · have h0' : (0 : Int) < (o.m : Int) := by omega
    obtain ⟨k, hk, hpk⟩ := pick_fix a o.m ha1 ha2 (by omega) (by omega)
    have hpos := HS.out.pos k hk
    obtain ⟨i, hi, hpi⟩ := pick_fix b (o.n k) hb1 hb2 (by omega) (by omega)
    have HK : Hid (∀ w, Calls Tryz.prog 19 #[.int .i64 a, .int .i64 o.m] w fun e w' => e = .returned (.int .i64 k) ∧ w' = w) := hpk
    have HI : Hid (∀ w, Calls Tryz.prog 19 #[.int .i64 b, .int .i64 (o.n k)] w fun e w' => e = .returned (.int .i64 i) ∧ w' = w) := hpi
    clear hpk hpi h0 ha1 ha2 hb1 hb2
    obtain ⟨go, rfl⟩ := own_some HS.out.pt.own1 (by omega)
    obtain ⟨gw, rfl⟩ := own_some HS.out.pt.own2 (by omega)
    have hk' : (k : Int) < (o.m : Int) := by omega
    have hi' : (i : Int) < (o.n k : Int) := by omega
    have l5 : B < o.g k := HS.out.lo k hk
    have l6 : o.g k < o.h k := HS.out.gh k hk
    go_enter Tryz.func13, Tryz.ntmps13
    go_wp2
    go_quiet ((go_at_call 19; exact Calls.quiet_of_same (HK.out _)))
    go_wp2_with fail
    have HB : Hid (Below w.heap.size w ((w.alloc (.cells #[.int .i64 3, .int .i64 m, .int .i64 a, .int .i64 b, .string s, .slice oa n cap] 33)).drewN nq)) := below_drewN (HB1.out _) nq
    have x1 : ((w.alloc (.cells #[.int .i64 3, .int .i64 m, .int .i64 a, .int .i64 b, .string s, .slice oa n cap] 33)).drewN nq).cell? ⟨w.heap.size, 1, none⟩ = some (.int .i64 m) := by simp
    have x3 : ((w.alloc (.cells #[.int .i64 3, .int .i64 m, .int .i64 a, .int .i64 b, .string s, .slice oa n cap] 33)).drewN nq).cell? ⟨w.heap.size, 3, none⟩ = some (.int .i64 b) := by simp
    generalize (w.alloc (.cells #[.int .i64 3, .int .i64 m, .int .i64 a, .int .i64 b, .string s, .slice oa n cap] 33)).drewN nq = W1 at *
    have HS1 : Hid (St W1 B o (.slice (some ⟨go, 0, none⟩) o.m co) (.slice (some ⟨gw, 0, none⟩) o.m cw)) := HS.out.below HB.out
    clear c1
    have c1 := HS1.out.pt.c1
    have d1 := HS1.out.cellO hk
    go_quiet ((go_at_call 19; exact Calls.quiet_of_same (HI.out _)))
    go_wp2_with fail
    have HB2 : Hid (Below w.heap.size w (W1.drewN nq)) := below_drewN HB.out nq
    have x2 : (W1.drewN nq).cell? ⟨w.heap.size, 1, none⟩ = some (.int .i64 m) := by simpa using x1
    generalize W1.drewN nq = W2 at *
    have HS2 : Hid (St W2 B o (.slice (some ⟨go, 0, none⟩) o.m co) (.slice (some ⟨gw, 0, none⟩) o.m cw)) := HS.out.below HB2.out
    clear c1 d1 x1 x3
    have c1 := HS2.out.pt.c1
    have d1 := HS2.out.cellO hk
    have e1 := (HS2.out.rg k hk).cell hi
    have z1 := (HS2.out.rg k hk).frozen i
    go_region
    have HSf : Hid (St ((W2.setCell ⟨o.g k, i, none⟩ (.int .i64 m)).drew.setCell ⟨o.h k, i, none⟩ (.int .i64 m)) B (o.put k i m) (.slice (some ⟨go, 0, none⟩) o.m co) (.slice (some ⟨gw, 0, none⟩) o.m cw)) := (HS2.out.put hk m).below (w' := ((W2.setCell ⟨o.g k, i, none⟩ (.int .i64 m)).setCell ⟨o.h k, i, none⟩ (.int .i64 m)).drew) (Below.refl _ _).drew
    have HBf : Hid (Below B w ((W2.setCell ⟨o.g k, i, none⟩ (.int .i64 m)).drew.setCell ⟨o.h k, i, none⟩ (.int .i64 m))) := (((HB2.out.mono (by omega)).setCell (by show B ≤ o.g k; omega) _).drew).setCell (by show B ≤ o.h k; omega) _
    have hP := HS2.out.put1 (i := i) hk m
    have c2 : (W2.setCell ⟨o.g k, i, none⟩ (.int .i64 m)).drew.cell? ⟨B, 2, none⟩ = some (.slice (some ⟨gw, 0, none⟩) o.m cw) := hP.c2
    have d2 : (W2.setCell ⟨o.g k, i, none⟩ (.int .i64 m)).drew.cell? ⟨gw, k, none⟩ = some (.slice (some ⟨o.h k, 0, none⟩) (o.n k) (o.n k)) := (hP.own2.cellAt k (by omega)).trans (sls_get _ _ hk)
    have hR : (W2.setCell ⟨o.g k, i, none⟩ (.int .i64 m)).drew.rowIs (o.h k) 3 (o.n k) (fun j => .int .i64 (o.F k j)) := ((HS2.out.rh k hk).setOther (by show o.h k ≠ o.g k; omega) _).drew
    have e2 := hR.cell hi
    have z2 := hR.frozen i
    have l1 : o.g k < w.heap.size := (HS.out.rg k hk).lt
    have x4 : (W2.setCell ⟨o.g k, i, none⟩ (.int .i64 m)).drew.cell? ⟨w.heap.size, 1, none⟩ = some (.int .i64 m) := cell_set_ne (by omega) x2
    clear hP hR c1 d1 e1 z1 x2
    generalize (W2.setCell ⟨o.g k, i, none⟩ (.int .i64 m)).drew = W3 at *
    go_wp2_with fail
    go_region
    go_wp2
    go_ret
    exact ⟨rfl, o.put k i m, _, _, by show o.m ≤ o.m + 1; omega, HSf.out.below (Below.refl _ _).drew, HBf.out.drew⟩

end Go.Proofs.YtljeahgpkeohlaaGreatDoor

namespace Go.Proofs.YtljeahgpkeohlaaGreatDoor
open Go.RowKit

/-- a step of a script; its orders lie behind oa -/
structure OpD where
  kind : Int
  m : Int
  a : Int
  b : Int
  s : ByteArray
  oa : Option Addr
  cap : Nat
  os : List Mk.Ord

/-- the steps l lie in memory behind the slice address a -/
def AtOps (w : World) (b off : Nat) (l : List OpD) : Prop :=
  ∀ (i : Nat) (h : i < l.length), w.cell? ⟨b, off + i * 6, none⟩ = some (.int .i64 l[i].kind) ∧ w.cell? ⟨b, off + i * 6 + 1, none⟩ = some (.int .i64 l[i].m) ∧ w.cell? ⟨b, off + i * 6 + 2, none⟩ = some (.int .i64 l[i].a) ∧
    w.cell? ⟨b, off + i * 6 + 3, none⟩ = some (.int .i64 l[i].b) ∧ w.cell? ⟨b, off + i * 6 + 4, none⟩ = some (.string l[i].s) ∧ w.cell? ⟨b, off + i * 6 + 5, none⟩ = some (.slice l[i].oa l[i].os.length l[i].cap) ∧ Rd w l[i].oa l[i].os
def RdOps (w : World) (a : Option Addr) (l : List OpD) : Prop := l = [] ∨ ∃ b off : Nat, a = some ⟨b, off, none⟩ ∧ AtOps w b off l
/-- what is known of the numbers and sizes of a step -/
structure OpD.Fits (x : OpD) : Prop where
  a1 : -9223372036854775808 ≤ x.a
  a2 : x.a ≤ 9223372036854775807
  b1 : -9223372036854775808 ≤ x.b
  b2 : x.b ≤ 9223372036854775807
  s1 : x.s.size ≤ 140737488355328
  o1 : x.os.length ≤ 140737488355328
  m1 : -9223372036854775808 ≤ x.m
  m2 : x.m ≤ 9223372036854775807

theorem AtOps.below {w w' : World} {b off : Nat} {l : List OpD} (h : AtOps w b off l) (hb : Below w.heap.size w w') : AtOps w' b off l := by
  intro i hi
  obtain ⟨c0, c1, c2, c3, c4, c5, hR⟩ := h i hi
  have hl := blk_lt c0
  exact ⟨(hb.cell (p := ⟨b, _, none⟩) hl).trans c0, (hb.cell (p := ⟨b, _, none⟩) hl).trans c1, (hb.cell (p := ⟨b, _, none⟩) hl).trans c2, (hb.cell (p := ⟨b, _, none⟩) hl).trans c3, (hb.cell (p := ⟨b, _, none⟩) hl).trans c4, (hb.cell (p := ⟨b, _, none⟩) hl).trans c5, hR.below hb⟩
theorem RdOps.below {w w' : World} {a : Option Addr} {l : List OpD} (h : RdOps w a l) (hb : Below w.heap.size w w') : RdOps w' a l := by
  rcases h with h | ⟨b, off, h, hR⟩
  · exact .inl h
  · exact .inr ⟨b, off, h, hR.below hb⟩

set_option maxRecDepth 100000 in
set_option maxHeartbeats 1000000 in
theorem saysAny_nil (s : ByteArray) (w : World) :
    Calls Tryz.prog 9 #[.string s, .slice none 0 0] w fun e w' => e = .returned (.bool false) ∧ w' = w := by
  go_enter Tryz.func9, Tryz.ntmps9
  go_wp2
  go_loop [5] (fun i => i = .int .i64 0) (fun i => 0)
  case atStart => rfl
  case round =>
    subst hrel
    go_wp2
    go_ret
    exact ⟨rfl, rfl⟩

/-- what 'small' tells -/
def SmallIs (l : List OpD) (r : Bool) : Prop := r = true → l.length ≤ 1048576 ∧ ∀ (i : Nat) (h : i < l.length), (l[i].os.length ≤ 1048576 ∧ l[i].s.size ≤ 1048576)

set_option maxRecDepth 100000 in
set_option maxHeartbeats 2000000 in
theorem small_any (a : Option Addr) (cap : Nat) (l : List OpD) (w : World) (hf : ∀ x ∈ l, x.Fits) (hR : RdOps w a l) :
    Calls Tryz.prog 8 #[.slice a l.length cap] w fun e w' => ∃ r, e = .returned (.bool r) ∧ SmallIs l r ∧ Below w.heap.size w w' := by
  have HF : Hid (∀ x ∈ l, x.Fits) := hf
  have HR : Hid (RdOps w a l) := hR
  clear hf hR
  by_cases hl : l.length ≤ 1048576
  · have hl' : ¬ (1048576 : Int) < (l.length : Int) := by omega
    go_enter Tryz.func8, Tryz.ntmps8
    go_wp2
    go_loopw [3, 4] (fun x j wr => ∃ (k : Nat) (n : Int), k ≤ l.length ∧ j = .int .i64 k ∧ x = .int .i64 n ∧ 0 ≤ n ∧ n ≤ 1048576 ∧ (∀ (i : Nat) (h : i < l.length), i < k → (l[i].os.length ≤ 1048576 ∧ l[i].s.size ≤ 1048576)) ∧ Below w.heap.size w wr) (fun _ j _ => l.length - (intOf j).toNat)
    case atStart => exact ⟨0, l.length, Nat.zero_le _, rfl, rfl, by omega, by omega, fun i _ hi => by omega, Below.refl _ _⟩
    case round =>
      obtain ⟨k, n, hk, rfl, rfl, hn1, hn2, hall, hb⟩ := hrel
      have Hb : Hid (Below w.heap.size w wr) := hb
      have Hall : Hid (∀ (i : Nat) (h : i < l.length), i < k → (l[i].os.length ≤ 1048576 ∧ l[i].s.size ≤ 1048576)) := hall
      clear hb hall
      by_cases hlt : k < l.length
      · rcases HR.out with h | ⟨b, off, rfl, hA⟩
        · rw [h] at hlt; simp at hlt
        obtain ⟨c0, c1, c2, c3, c4, c5, _⟩ := AtOps.below hA Hb.out k hlt
        clear hA
        have hlt' : (k : Int) < (l.length : Int) := by omega
        obtain ⟨_, _, _, _, hs, ho, _, _⟩ := HF.out _ (List.getElem_mem hlt)
        by_cases hbig : (1048576 : Int) < n + (l[k].s.size : Int) + (l[k].os.length : Int)
        · go_wp2
          go_quiet (fail)
          go_wp2
          go_ret
          exact ⟨false, rfl, fun h => (by cases h), below_drewN Hb.out _⟩
        · have HA : Hid (∀ (i : Nat) (h : i < l.length), i < k + 1 → (l[i].os.length ≤ 1048576 ∧ l[i].s.size ≤ 1048576)) := fun i h hi => by
            by_cases e : i = k
            · subst e; exact ⟨by omega, by omega⟩
            · exact Hall.out i h (by omega)
          go_wp2
          go_quiet (fail)
          go_wp2
          go_roundw
          case rel => exact ⟨k + 1, n + (l[k].s.size : Int) + (l[k].os.length : Int), by omega, by go_num, by go_num, by omega, by omega, HA.out, below_drewN Hb.out _⟩
          case measure => simp [intOf]; omega
      · obtain rfl : k = l.length := by omega
        go_wp2
        go_ret
        exact ⟨true, rfl, fun _ => ⟨hl, fun i h => Hall.out i h h⟩, Hb.out⟩
  · have hl' : (1048576 : Int) < (l.length : Int) := by omega
    go_enter Tryz.func8, Tryz.ntmps8
    go_wp2
    go_ret
    exact ⟨false, rfl, fun h => (by cases h), Below.refl _ _⟩

theorem Left.of {w w1 : World} {B : Nat} {o : Outs} {e : Ending} {w' : World} (h : Left w1 B o e w') (hb : Below B w w1) : Left w B o e w' := by
  obtain ⟨he, o', vo', vw', h1, h2, h3⟩ := h
  exact ⟨he, o', vo', vw', h1, h2, hb.trans h3⟩

set_option maxRecDepth 100000 in
set_option maxHeartbeats 2000000 in
theorem step_of (B : Nat) (o : Outs) (kind m a b : Int) (s : ByteArray) (oa : Option Addr) (n cap : Nat) (w : World) (h1 : 1 ≤ kind) (h2 : kind ≤ 3) (hBw : B < w.heap.size)
    (hl : ∀ ob, Calls Tryz.prog 13 #[.pointer (some ⟨B, 0, none⟩), opV kind m a b s oa n cap] (w.alloc ob) fun e w' => Left (w.alloc ob) B o e w') :
    Calls Tryz.prog 10 #[.pointer (some ⟨B, 0, none⟩), opV kind m a b s oa n cap] w fun e w' => Left w B o e w' := by
  have HL := (show Hid _ from hl)
  clear hl
  go_enter Tryz.func10, Tryz.ntmps10
  go_wp2_with fail
  refine (HL.out _).mono ?_
  rintro e w2 ⟨rfl, o', vo', vw', hm', hS', hb'⟩
  have HS' : Hid (St w2 B o' vo' vw') := hS'
  have HB' : Hid (Below B w w2) := ((Below.refl _ _).alloc (by omega) _).trans hb'
  clear hS' hb'
  go_wp2
  go_ret
  exact ⟨rfl, o', vo', vw', hm', HS'.out, HB'.out⟩

theorem step_any (B : Nat) (o : Outs) (vo vw : Value) (x : OpD) (w : World) (h1 : 1 ≤ x.kind) (h2 : x.kind ≤ 3) (hm : o.m ≤ 1048576) (hn : x.os.length ≤ 1048576) (hf : x.Fits) (hR : Rd w x.oa x.os) (hS : St w B o vo vw) :
    Calls Tryz.prog 10 #[.pointer (some ⟨B, 0, none⟩), opV x.kind x.m x.a x.b x.s x.oa x.os.length x.cap] w fun e w' => Left w B o e w' := by
  have hb : ∀ ob, Below w.heap.size w (w.alloc ob) := fun ob => (Below.refl _ _).alloc (Nat.le_refl _) _
  refine step_of B o x.kind x.m x.a x.b x.s x.oa x.os.length x.cap w h1 h2 hS.lt (fun ob => ?_)
  obtain h | h | h : x.kind = 1 ∨ x.kind = 2 ∨ x.kind = 3 := by omega
  · rw [h]; exact lists_uniform B o vo vw _ _ _ _ _ _ x.os _ hm hn (hR.below (hb ob)) (hS.below (hb ob))
  · rw [h]; exact lists_mcafee B o vo vw _ _ _ _ _ _ x.os _ hm hn (hR.below (hb ob)) (hS.below (hb ob))
  · rw [h]; exact lists_write B o vo vw _ _ _ _ _ _ _ _ hm (hS.below (hb ob)) hf.a1 hf.a2 hf.b1 hf.b2

end Go.Proofs.YtljeahgpkeohlaaGreatDoor

namespace Go.Proofs.YtljeahgpkeohlaaGreatDoor
open Go.RowKit

/-- nothing has come out yet -/
def Outs.none : Outs := ⟨0, fun _ => 0, fun _ => 0, fun _ => 0, fun _ _ => 0⟩
theorem St.born (w : World) : St (w.alloc (.cells #[.slice none 0 0, .slice none 0 0, .slice none 0 0] 30)) w.heap.size Outs.none (.slice none 0 0) (.slice none 0 0) :=
  ⟨⟨by simp, by simp, by simp [go_sem], by simp [go_sem], ⟨by simp [sls, Outs.none], .inl ⟨rfl, rfl⟩⟩, ⟨by simp [sls, Outs.none], .inl ⟨rfl, rfl⟩⟩, fun k hk => by simp [Value.ownBlock] at hk⟩,
    fun i hi => absurd hi (Nat.not_lt_zero i), fun i hi => absurd hi (Nat.not_lt_zero i), fun i hi => absurd hi (Nat.not_lt_zero i), fun i hi => absurd hi (Nat.not_lt_zero i), fun i hi => absurd hi (Nat.not_lt_zero i), fun i j _ hj => absurd hj (Nat.not_lt_zero j)⟩

set_option maxRecDepth 100000 in
set_option maxHeartbeats 2000000 in
theorem plays_lists (a : Option Addr) (cap : Nat) (l : List OpD) (w : World) (hf : ∀ x ∈ l, x.Fits) (hR : RdOps w a l) :
    Calls Tryz.prog 7 #[.slice a l.length cap, .int .i64 1, .int .i64 3, .slice none 0 0] w fun e w' => e = .returned (.bool true) ∧ Below w.heap.size w w' := by
  have HF : Hid (∀ x ∈ l, x.Fits) := hf
  have HR : Hid (RdOps w a l) := hR
  clear hf hR
  go_enter Tryz.func7, Tryz.ntmps7
  go_wp2_with fail
  refine (small_any a cap l _ HF.out HR.out).mono ?_
  rintro e w1 ⟨r, rfl, hsm, hb1⟩
  have HB1 : Hid (Below w.heap.size w w1) := hb1
  have HSm : Hid (SmallIs l r) := hsm
  clear hsm hb1
  cases r
  · go_wp2
    go_ret
    exact ⟨rfl, HB1.out⟩
  · obtain ⟨hlen, hos⟩ := HSm.out rfl
    have HO : Hid (∀ (i : Nat) (h : i < l.length), l[i].os.length ≤ 1048576) := fun i h => (hos i h).1
    clear hos
    have hsz := HB1.out.size
    go_wp2
    go_loopw [11] (fun j wr => ∃ k : Nat, k ≤ l.length ∧ j = .int .i64 k ∧ (∃ o vo vw, o.m ≤ k ∧ St wr w1.heap.size o vo vw) ∧ Below w1.heap.size w1 wr) (fun j _ => l.length - (intOf j).toNat)
    case atStart => exact ⟨0, Nat.zero_le _, rfl, ⟨Outs.none, _, _, Nat.le_refl _, St.born w1⟩, (Below.refl _ _).alloc (Nat.le_refl _) _⟩
    case round =>
      obtain ⟨k, hk, rfl, ⟨o, vo, vw, hm, hS⟩, hb⟩ := hrel
      have Hb : Hid (Below w1.heap.size w1 wr) := hb
      have HS : Hid (St wr w1.heap.size o vo vw) := hS
      have HBw : Hid (Below w.heap.size w wr) := HB1.out.trans (hb.mono hsz)
      have hBr : w1.heap.size < wr.heap.size := hS.lt
      clear hb hS
      by_cases hlt : k < l.length
      · rcases HR.out with h | ⟨b, off, rfl, hA⟩
        · rw [h] at hlt; simp at hlt
        obtain ⟨c0, c1, c2, c3, c4, c5, hRk⟩ := AtOps.below hA HBw.out k hlt
        clear hA
        have HRk : Hid (Rd wr l[k].oa l[k].os) := hRk
        have HFk : Hid (l[k].Fits) := HF.out _ (List.getElem_mem hlt)
        have hok := HO.out k hlt
        clear hRk
        have hbl := blk_lt c0
        have hlt' : (k : Int) < (l.length : Int) := by omega
        have HAl : Hid (∀ ob, Below wr.heap.size wr (wr.alloc ob)) := fun ob => (Below.refl _ _).alloc (Nat.le_refl _) ob
        by_cases h1 : l[k].kind < 1
        · go_wp2_with (go_at_call 9; refine (saysAny_nil _ _).mono ?_; rintro e w2 ⟨rfl, hw2⟩; obtain rfl := hw2.symm)
          go_roundw
          case rel => exact ⟨k + 1, by omega, by go_num, ⟨o, vo, vw, by omega, HS.out.below (HAl.out _)⟩, Hb.out.alloc Hb.out.size _⟩
          case measure => simp [intOf]; omega
        · by_cases h3 : 3 < l[k].kind
          · go_wp2_with (go_at_call 9; refine (saysAny_nil _ _).mono ?_; rintro e w2 ⟨rfl, hw2⟩; obtain rfl := hw2.symm)
            go_roundw
            case rel => exact ⟨k + 1, by omega, by go_num, ⟨o, vo, vw, by omega, HS.out.below (HAl.out _)⟩, Hb.out.alloc Hb.out.size _⟩
            case measure => simp [intOf]; omega
          · go_wp2_with fail
            refine (saysAny_nil _ _).mono ?_
            rintro e w2 ⟨rfl, hw2⟩
            obtain rfl := hw2.symm
            go_wp2_with fail
            refine (step_any w1.heap.size o vo vw l[k] _ (by omega) (by omega) (by omega) hok HFk.out (HRk.out.below (HAl.out _)) (HS.out.below (HAl.out _))).mono ?_
            rintro e w3 ⟨rfl, o3, vo3, vw3, hm3, hS3, hb3⟩
            have HS3 : Hid (St w3 w1.heap.size o3 vo3 vw3) := hS3
            have HB3 : Hid (Below w1.heap.size w1 w3) := (Hb.out.alloc Hb.out.size _).trans hb3
            clear hS3 hb3
            go_wp2_with fail
            refine (looks_any w1.heap.size o3 vo3 vw3 _ (by omega) HS3.out).mono ?_
            rintro e w4 ⟨rfl, hb4⟩
            have HS4 : Hid (St w4 w1.heap.size o3 vo3 vw3) := HS3.out.below hb4
            have HB4 : Hid (Below w1.heap.size w1 w4) := HB3.out.trans (hb4.mono HB3.out.size)
            clear hb4
            go_wp2
            go_roundw
            case rel => exact ⟨k + 1, by omega, by go_num, ⟨o3, vo3, vw3, by omega, HS4.out⟩, HB4.out⟩
            case measure => simp [intOf]; omega
      · go_wp2
        go_ret
        exact ⟨rfl, HBw.out⟩

set_option maxHeartbeats 1000000 in
theorem lists_law (a : Option Addr) (cap : Nat) (l : List OpD) (w : World) (hf : ∀ x ∈ l, x.Fits) (hR : RdOps w a l) :
    Calls Tryz.prog 3 #[.slice a l.length cap] w fun e w' => e = .returned (.bool true) ∧ Below w.heap.size w w' := by
  have HF : Hid (∀ x ∈ l, x.Fits) := hf
  have HR : Hid (RdOps w a l) := hR
  clear hf hR
  go_enter Tryz.func3, Tryz.ntmps3
  go_wp2_with fail
  refine (plays_lists a cap l _ HF.out HR.out).mono ?_
  rintro e w1 ⟨rfl, hb1⟩
  have HB1 : Hid (Below w.heap.size w w1) := hb1
  clear hb1
  go_wp2
  go_ret
  exact ⟨rfl, HB1.out⟩

end Go.Proofs.YtljeahgpkeohlaaGreatDoor
