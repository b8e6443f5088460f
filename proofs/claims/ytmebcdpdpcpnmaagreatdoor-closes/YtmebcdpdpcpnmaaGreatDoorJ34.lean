import Derived.Test.YtmebcdpdpcpnmaaGreatDoorJ33
import Derived.Deep.CutBlock
import Derived.Test.YtmebcdpdpcpnmaaGreatDoorJ5
import Derived.Test.YtmebcdpdpcpnmaaGreatDoorJ19
namespace Go.Proofs.YtmebcdpdpcpnmaaGreatDoor
open Go.RowKit

/-- what a statement on markets asks of Do: the pure Do, what stays true of a market, which texts -/
structure Doing (D : Mk.Mkt → ByteArray → ByteArray × Int × Mk.Mkt) (Inv : Mk.Mkt → Nat → Prop) (Ok : ByteArray → Prop) : Prop where
  fine : ∀ M k, Inv M k → M.Fine
  new : Inv Mk.Mkt.new 0
  up : ∀ M k, Inv M k → Inv M (k + 1)
  step : ∀ M k s, Inv M k → Ok s → Inv (D M s).2.2 (k + 1)
  p : ∀ (p : Nat) (vb : Nat → Value) (M : Mk.Mkt) (k : Nat) (s : ByteArray) (w : World), Inv M k → k ≤ 1048576 → s.size ≤ 1048576 → Ok s → PM w p vb M → Tab w →
    Calls Tryz.prog 31 #[.pointer (some ⟨p, 0, none⟩), .string s] w fun e w' => PDoT p vb (D M s) w e w'
  r : ∀ (p : Nat) (b : RB) (M : Mk.Mkt) (k : Nat) (s : ByteArray) (w : World), Inv M k → k ≤ 1048576 → s.size ≤ 1048576 → Ok s → Ref w p b M →
    Calls Tryz.prog 30 #[.pointer (some ⟨p, 0, none⟩), .string s] w fun e w' => DoT p b (D M s) w e w'

theorem only_drew {S : Nat → Prop} {w w' : World} (h : Only S w.drew w') : Only S w w' := ⟨h.os, h.tape, h.output, h.size, h.block⟩
/-- what a step leaves -/
def Lm (E : Ext) (Inv : Mk.Mkt → Nat → Prop) (w : World) (B k : Nat) (e : Ending) (w' : World) : Prop :=
  e = .returned (.bool true) ∧ ∃ vm s, Sm E w' B vm s ∧ (∀ i, i < s.m → s.Mp i = s.Mr i ∧ Inv (s.Mp i) (k + 1)) ∧ s.m ≤ k + 1 ∧ Below B w w'

abbrev opO (kind m a b : Int) (s : ByteArray) (oa : Option Addr) (n cap : Nat) : Obj := .cells #[.int .i64 kind, .int .i64 m, .int .i64 a, .int .i64 b, .string s, .slice oa n cap] 33

section
variable {E : Ext} {D : Mk.Mkt → ByteArray → ByteArray × Int × Mk.Mkt} {Inv : Mk.Mkt → Nat → Prop} {Ok : ByteArray → Prop}

set_option maxRecDepth 100000 in
set_option maxHeartbeats 4000000 in
theorem call_do (hD : Doing D Inv Ok) (B : Nat) (vm : Value) (s : Mks) (i k : Nat) (m a b : Int) (t : ByteArray) (oa : Option Addr) (n cap : Nat) (w : World) (hk : k < 1048576) (hm : s.m ≤ k) (hi : i < s.m) (ht : t.size ≤ 1048576) (hok : Ok t) (hT : Tab w) (hg : ∀ g, Tryz.prog.globalNamed "internal/strconv.uint64pow10" = some g → g < B)
    (hS : Sm E w B vm s) (hI : ∀ i, i < s.m → s.Mp i = s.Mr i ∧ Inv (s.Mp i) k) :
    Calls Tryz.prog 22 #[.pointer (some ⟨s.q i, 0, none⟩), opV 5 m a b t oa n cap] w fun e w' => Lm E Inv w B k e w' := by
  have HI : Hid (∀ i, i < s.m → s.Mp i = s.Mr i ∧ Inv (s.Mp i) k) := hI
  have HB1 : Hid (Below w.heap.size w (w.alloc (opO 5 m a b t oa n cap))) := (Below.refl _ _).alloc (Nat.le_refl _) _
  have HS1 : Hid (Sm E (w.alloc (opO 5 m a b t oa n cap)) B vm s) := hS.below HB1.out
  have HS0 : Hid (Sm E w B vm s) := hS
  have hBw := hS.lt
  have HT1 : Hid (Tab (w.alloc (opO 5 m a b t oa n cap))) := hT.next HB1.out
  have x4 : (w.alloc (opO 5 m a b t oa n cap)).cell? ⟨w.heap.size, 4, none⟩ = some (.string t) := by simp
  have hwl : w.heap.size < (w.alloc (opO 5 m a b t oa n cap)).heap.size := by simp
  have HG : Hid (∀ g, Tryz.prog.globalNamed "internal/strconv.uint64pow10" = some g → g < B) := hg
  have HD : Hid (Doing D Inv Ok) := hD
  have HOk : Hid (Ok t) := hok
  clear hI hS hT hg hD hok
  go_enter Tryz.func22, Tryz.ntmps22
  go_upto_region 3 with fail
  generalize w.alloc (opO 5 m a b t oa n cap) = W1 at *
  have q0 := (HS1.out.sc.pair i hi).cell (i := 0) (by omega)
  have q1 := (HS1.out.sc.pair i hi).cell (i := 1) (by omega)
  simp only [prF] at q0 q1
  have hMi : s.Mr i = s.Mp i := (HI.out i hi).1.symm
  have HRi : Hid (Ref W1 (s.pr i) (s.rb i) (s.Mp i)) := (by have := HS1.out.sc.rf i hi; rw [hMi] at this; exact this : Ref W1 (s.pr i) (s.rb i) (s.Mp i))
  have HPi : Hid (PM W1 (s.px i) (s.vb i) (s.Mp i)) := HS1.out.sc.pm i hi
  have HCp : Hid (Calls Tryz.prog 31 #[.pointer (some ⟨s.px i, 0, none⟩), .string t] W1.drew fun e w' => PDoT (s.px i) (s.vb i) (D (s.Mp i) t) W1.drew e w') := (HD.out.p (s.px i) (s.vb i) (s.Mp i) k t W1.drew (HI.out i hi).2 (by omega) ht HOk.out (HPi.out.below (Below.refl _ _).drew) (HT1.out.next (Below.refl _ _).drew))
  go_cut [5, 6] from 19 to 28 (fun x y wx => x = .string (D (s.Mp i) t).1 ∧ y = .int .i64 (D (s.Mp i) t).2.1 ∧ ∃ vb', PM wx (s.px i) vb' (D (s.Mp i) t).2.2 ∧ Only (PHas (s.px i) (s.vb i)) W1 wx ∧ ∀ k, PHas (s.px i) vb' k → PHas (s.px i) (s.vb i) k ∨ W1.heap.size ≤ k)
  case first =>
    go_region_with (go_at_call 31; (go_must (refine HCp.out.mono ?_; rintro e w2 ⟨rfl, vb', hP2, ho2, hn2⟩)))
    all_goals
      have HW : Hid (PM w2 (s.px i) vb' (D (s.Mp i) t).2.2 ∧ Only (PHas (s.px i) (s.vb i)) W1 w2 ∧ ∀ k, PHas (s.px i) vb' k → PHas (s.px i) (s.vb i) k ∨ W1.heap.size ≤ k) := ⟨hP2, only_drew ho2, hn2⟩
      clear hP2 ho2 hn2
      go_wp2_with fail
      go_meet
      exact ⟨rfl, rfl, vb', HW.out⟩
  case rest =>
    obtain ⟨rfl, rfl, vb', hP2, ho2, hn2⟩ := hcut
    have hS2 := HS1.out.atP hi hP2 ho2 hn2
    have hb2 := HS1.out.belowP hi ho2
    have q1 := (hS2.sc.pair i hi).cell (i := 1) (by omega)
    simp only [prF] at q1
    have y4 : wc.cell? ⟨w.heap.size, 4, none⟩ = some (.string t) := (ho2.cell hwl (fun h => by have := (HS0.out.sc.pm i hi).lt h; omega)).trans x4
    have hR2 : Ref wc (s.pr i) (s.rb i) (s.Mp i) := by
      have := hS2.sc.rf i hi
      simp only [hMi] at this
      exact this
    have HS2 : Hid (Sm E wc B vm { s with vb := upd s.vb i vb', Mp := upd s.Mp i (D (s.Mp i) t).2.2 }) := hS2
    have HB2 : Hid (Below B w wc) := (HB1.out.mono (by omega)).trans hb2
    have HCr : Hid (Calls Tryz.prog 30 #[.pointer (some ⟨s.pr i, 0, none⟩), .string t] wc.drew fun e w' => DoT (s.pr i) (s.rb i) (D (s.Mp i) t) wc.drew e w') := HD.out.r (s.pr i) (s.rb i) (s.Mp i) k t wc.drew (HI.out i hi).2 (by omega) ht HOk.out (hR2.below (Below.refl _ _).drew)
    clear hS2 hb2 hR2 hP2 ho2 hn2 q0 x4 HRi HPi HCp HS1
    go_upto_region 4 with fail
    go_cut [7, 8] from 29 to 38 (fun x y wx => x = .string (D (s.Mp i) t).1 ∧ y = .int .i64 (D (s.Mp i) t).2.1 ∧ ∃ b', Ref wx (s.pr i) b' (D (s.Mp i) t).2.2 ∧ Only ((s.rb i).has (s.pr i)) wc wx ∧ ∀ k, b'.has (s.pr i) k → (s.rb i).has (s.pr i) k ∨ wc.heap.size ≤ k)
    case first =>
      go_region_with (go_at_call 30; (go_must (refine HCr.out.mono ?_; rintro e w2 ⟨rfl, b', hP2, ho2, hn2⟩)))
      all_goals
        have HW : Hid (Ref w2 (s.pr i) b' (D (s.Mp i) t).2.2 ∧ Only ((s.rb i).has (s.pr i)) wc w2 ∧ ∀ k, b'.has (s.pr i) k → (s.rb i).has (s.pr i) k ∨ wc.heap.size ≤ k) := ⟨hP2, only_drew ho2, hn2⟩
        clear hP2 ho2 hn2
        go_wp2_with fail
        go_meet
        exact ⟨rfl, rfl, b', HW.out⟩
    case rest =>
      obtain ⟨rfl, rfl, b', hR3, ho3, hn3⟩ := hcut
      have hS3 := HS2.out.atR hi hR3 ho3 hn3
      have HS3 := (show Hid _ from hS3)
      have HB3 : Hid (Below B w wc) := HB2.out.trans (HS2.out.belowR hi ho3)
      have HI3 : Hid (∀ j, j < s.m → upd s.Mp i (D (s.Mp i) t).2.2 j = upd s.Mr i (D (s.Mp i) t).2.2 j ∧ Inv (upd s.Mp i (D (s.Mp i) t).2.2 j) (k + 1)) := fun j hj => by
        by_cases e : j = i
        · subst e
          rw [upd_self, upd_self]
          exact ⟨rfl, HD.out.step _ _ _ (HI.out j hj).2 HOk.out⟩
        · rw [upd_ne _ _ e, upd_ne _ _ e]
          exact ⟨(HI.out j hj).1, HD.out.up _ _ (HI.out j hj).2⟩
      clear hS3 hR3 ho3 hn3 HS2 HB2 HCr q1 y4
      go_wp2
      go_ret
      exact ⟨by simp, vm, _, HS3.out, HI3.out, by show s.m ≤ k + 1; omega, HB3.out⟩

set_option maxRecDepth 100000 in
set_option maxHeartbeats 4000000 in
theorem call_show (hD : Doing D Inv Ok) (B : Nat) (vm : Value) (s : Mks) (i k : Nat) (m a b : Int) (t : ByteArray) (oa : Option Addr) (n cap : Nat) (w : World) (hm : s.m ≤ k) (hi : i < s.m) (hT : Tab w)
    (hS : Sm E w B vm s) (hI : ∀ i, i < s.m → s.Mp i = s.Mr i ∧ Inv (s.Mp i) k) :
    Calls Tryz.prog 22 #[.pointer (some ⟨s.q i, 0, none⟩), opV 6 m a b t oa n cap] w fun e w' => Lm E Inv w B k e w' := by
  have HI : Hid (∀ i, i < s.m → s.Mp i = s.Mr i ∧ Inv (s.Mp i) k) := hI
  have HB1 : Hid (Below w.heap.size w (w.alloc (opO 6 m a b t oa n cap))) := (Below.refl _ _).alloc (Nat.le_refl _) _
  have HS1 : Hid (Sm E (w.alloc (opO 6 m a b t oa n cap)) B vm s) := hS.below HB1.out
  have HT1 : Hid (Tab (w.alloc (opO 6 m a b t oa n cap))) := hT.next HB1.out
  have hBw := hS.lt
  have HD : Hid (Doing D Inv Ok) := hD
  have HF : Hid (s.Mp i).Fine := hD.fine _ _ (hI i hi).2
  have hMi : s.Mr i = s.Mp i := (hI i hi).1.symm
  have HIF : Hid (∀ j, j < s.m → s.Mp j = s.Mr j ∧ Inv (s.Mp j) (k + 1)) := fun j hj => ⟨(HI.out j hj).1, HD.out.up _ _ (HI.out j hj).2⟩
  clear hI hS hT hD
  go_enter Tryz.func22, Tryz.ntmps22
  go_upto_region 7 with fail
  generalize w.alloc (opO 6 m a b t oa n cap) = W1 at *
  have q0 := (HS1.out.sc.pair i hi).cell (i := 0) (by omega)
  simp only [prF] at q0
  go_wp2_with fail
  refine (pshow_any _ _ _ _ HF.out (HS1.out.sc.pm i hi) HT1.out).mono ?_
  rintro e w2 ⟨rfl, hb2⟩
  have HS2 : Hid (Sm E w2 B vm s) := HS1.out.below hb2
  have HB2 : Hid (Below w.heap.size w w2) := HB1.out.trans (hb2.mono HB1.out.size)
  clear hb2 q0
  have q1 := (HS2.out.sc.pair i hi).cell (i := 1) (by omega)
  simp only [prF] at q1
  have HR2 : Hid (Ref w2 (s.pr i) (s.rb i) (s.Mp i)) := (by have := HS2.out.sc.rf i hi; rw [hMi] at this; exact this : Ref w2 (s.pr i) (s.rb i) (s.Mp i))
  go_wp2_with fail
  refine (rshow_any _ _ _ _ HF.out HR2.out).mono ?_
  rintro e w3 ⟨rfl, hb3⟩
  have HS3 : Hid (Sm E w3 B vm s) := HS2.out.below hb3
  have HB3 : Hid (Below w.heap.size w w3) := HB2.out.trans (hb3.mono HB2.out.size)
  clear hb3 q1
  go_wp2_with fail
  go_ret
  exact ⟨by simp, vm, s, HS3.out, HIF.out, by omega, HB3.out.mono (by omega)⟩

set_option maxRecDepth 100000 in
set_option maxHeartbeats 4000000 in
theorem call_last (hD : Doing D Inv Ok) (B : Nat) (vm : Value) (s : Mks) (i k : Nat) (m a b : Int) (t : ByteArray) (oa : Option Addr) (n cap : Nat) (w : World) (hm : s.m ≤ k) (hi : i < s.m)
    (hS : Sm E w B vm s) (hI : ∀ i, i < s.m → s.Mp i = s.Mr i ∧ Inv (s.Mp i) k) :
    Calls Tryz.prog 22 #[.pointer (some ⟨s.q i, 0, none⟩), opV 7 m a b t oa n cap] w fun e w' => Lm E Inv w B k e w' := by
  have HI : Hid (∀ i, i < s.m → s.Mp i = s.Mr i ∧ Inv (s.Mp i) k) := hI
  have HB1 : Hid (Below w.heap.size w (w.alloc (opO 7 m a b t oa n cap))) := (Below.refl _ _).alloc (Nat.le_refl _) _
  have HS1 : Hid (Sm E (w.alloc (opO 7 m a b t oa n cap)) B vm s) := hS.below HB1.out
  have x2 : (w.alloc (opO 7 m a b t oa n cap)).cell? ⟨w.heap.size, 2, none⟩ = some (.int .i64 a) := by simp
  have hwl : w.heap.size < (w.alloc (opO 7 m a b t oa n cap)).heap.size := by simp
  have hBw := hS.lt
  have HD : Hid (Doing D Inv Ok) := hD
  have hMi : s.Mr i = s.Mp i := (hI i hi).1.symm
  have HIF : Hid (∀ j, j < s.m → s.Mp j = s.Mr j ∧ Inv (s.Mp j) (k + 1)) := fun j hj => ⟨(HI.out j hj).1, HD.out.up _ _ (HI.out j hj).2⟩
  clear hI hS hD
  go_enter Tryz.func22, Tryz.ntmps22
  go_upto_region 11 with fail
  generalize w.alloc (opO 7 m a b t oa n cap) = W1 at *
  have q0 := (HS1.out.sc.pair i hi).cell (i := 0) (by omega)
  have q1 := (HS1.out.sc.pair i hi).cell (i := 1) (by omega)
  have hql := (HS1.out.sc.pair i hi).lt
  simp only [prF] at q0 q1
  have HRi : Hid (Ref W1 (s.pr i) (s.rb i) (s.Mp i)) := (by have := HS1.out.sc.rf i hi; rw [hMi] at this; exact this : Ref W1 (s.pr i) (s.rb i) (s.Mp i))
  have HPi : Hid (PM W1 (s.px i) (s.vb i) (s.Mp i)) := HS1.out.sc.pm i hi
  have d0 : ∀ u : Wof (Below W1.heap.size W1), u.val.cell? ⟨s.q i, 0, none⟩ = some (.pointer (some ⟨s.px i, 0, none⟩)) := fun u => (u.ok.cell (p := ⟨s.q i, 0, none⟩) hql).trans q0
  have d2 : ∀ u : Wof (Below W1.heap.size W1), u.val.cell? ⟨w.heap.size, 2, none⟩ = some (.int .i64 a) := fun u => (u.ok.cell (p := ⟨w.heap.size, 2, none⟩) hwl).trans x2
  have hne : Nonempty (Wof (Below W1.heap.size W1)) := ⟨⟨W1, Below.refl _ _⟩⟩
  clear q0
  refine wp_region_calls (S := Below W1.heap.size W1) (by kernel_rfl) (by kernel_rfl) (Below.refl _ _).drew ?_
  repeat (quiet_step ((rename_i u; refine (plast_any _ _ _ _ _ (HPi.out.below u.ok)).mono ?_; rintro e w3 ⟨rfl, hb3⟩; exact ⟨rfl, ⟨w3, u.ok.trans (hb3.mono u.ok.size)⟩, rfl⟩)))
  refine wpQuiet_nil ?_
  rintro _ ⟨u, rfl⟩
  have HB2 : Hid (Below w.heap.size w u.val) := HB1.out.trans (u.ok.mono HB1.out.size)
  have HS2 : Hid (Sm E u.val B vm s) := HS1.out.below u.ok
  have HR2 : Hid (Ref u.val (s.pr i) (s.rb i) (s.Mp i)) := HRi.out.below u.ok
  have y2 : u.val.cell? ⟨w.heap.size, 2, none⟩ = some (.int .i64 a) := d2 u
  have q1' : u.val.cell? ⟨s.q i, 1, none⟩ = some (.pointer (some ⟨s.pr i, 0, none⟩)) := (u.ok.cell (p := ⟨s.q i, 1, none⟩) hql).trans q1
  have hwl2 : w.heap.size < u.val.heap.size := Nat.lt_of_lt_of_le hwl u.ok.size
  have hql2 : s.q i < u.val.heap.size := Nat.lt_of_lt_of_le hql u.ok.size
  clear d0 d2 x2 q1 hne hwl hql
  generalize u.val = W2 at *
  have d1 : ∀ u : Wof (Below W2.heap.size W2), u.val.cell? ⟨s.q i, 1, none⟩ = some (.pointer (some ⟨s.pr i, 0, none⟩)) := fun u => (u.ok.cell (p := ⟨s.q i, 1, none⟩) hql2).trans q1'
  have d2 : ∀ u : Wof (Below W2.heap.size W2), u.val.cell? ⟨w.heap.size, 2, none⟩ = some (.int .i64 a) := fun u => (u.ok.cell (p := ⟨w.heap.size, 2, none⟩) hwl2).trans y2
  have hne : Nonempty (Wof (Below W2.heap.size W2)) := ⟨⟨W2, Below.refl _ _⟩⟩
  clear q1' y2
  go_upto_region 12 with fail
  refine wp_region_calls (S := Below W2.heap.size W2) (by kernel_rfl) (by kernel_rfl) (Below.refl _ _).drew ?_
  repeat (quiet_step ((rename_i u; refine (rlast_any _ _ _ _ _ (HR2.out.below u.ok)).mono ?_; rintro e w3 ⟨rfl, rfl⟩; exact ⟨rfl, u, rfl⟩)))
  refine wpQuiet_nil ?_
  rintro _ ⟨u, rfl⟩
  have HB3 : Hid (Below w.heap.size w u.val) := HB2.out.trans (u.ok.mono HB2.out.size)
  have HS3 : Hid (Sm E u.val B vm s) := HS2.out.below u.ok
  clear d1 d2 hne hwl2 hql2
  generalize u.val = W3 at *
  go_wp2_with fail
  go_ret
  exact ⟨by simp, vm, s, HS3.out, HIF.out, by omega, HB3.out.mono (by omega)⟩

end

end Go.Proofs.YtmebcdpdpcpnmaaGreatDoor

namespace Go.Proofs.YtmebcdpdpcpnmaaGreatDoor
open Go.RowKit

/-- one market more -/
def Mks.push (s : Mks) (q x p : Nat) (vb : Nat → Value) (b : RB) (M : Mk.Mkt) : Mks := ⟨s.m + 1, upd s.q s.m q, upd s.px s.m x, upd s.pr s.m p, upd s.vb s.m vb, upd s.rb s.m b, upd s.Mp s.m M, upd s.Mr s.m M⟩
theorem Mks.push_old (s : Mks) (q x p : Nat) (vb : Nat → Value) (b : RB) (M : Mk.Mkt) {a : Nat} (ha : a < 2 * s.m) (k : Nat) : (s.push q x p vb b M).own a k ↔ s.own a k := by
  unfold Mks.own Mks.push
  have h : a / 2 ≠ s.m := by omega
  simp only [upd_ne _ _ h]
theorem Mks.push_p (s : Mks) (q x p : Nat) (vb : Nat → Value) (b : RB) (M : Mk.Mkt) (k : Nat) : (s.push q x p vb b M).own (2 * s.m) k ↔ PHas x vb k := by
  rw [Mks.own_p]
  unfold Mks.push
  simp only [upd_self]
theorem Mks.push_r (s : Mks) (q x p : Nat) (vb : Nat → Value) (b : RB) (M : Mk.Mkt) (k : Nat) : (s.push q x p vb b M).own (2 * s.m + 1) k ↔ b.has p k := by
  rw [Mks.own_r]
  unfold Mks.push
  simp only [upd_self]
theorem ptrs_push (q : Nat → Nat) (m b : Nat) : ptrs (upd q m b) (m + 1) = ptrs q m ++ [.pointer (some ⟨b, 0, none⟩)] := by
  unfold ptrs
  rw [List.range_succ, List.map_append]
  congr 1
  · refine List.map_congr_left (fun i hi => ?_)
    have : i ≠ m := by have := List.mem_range.1 hi; omega
    rw [upd_ne _ _ this]
  · simp [upd_self]

theorem Sc.push {E : Ext} {w w' : World} {B : Nat} {vm : Value} {s : Mks} (h : Sm E w B vm s) (hb : Below w.heap.size w w') {q x p : Nat} {vb : Nat → Value} {b : RB} {M : Mk.Mkt}
    (hP : PM w' x vb M) (hR : Ref w' p b M) (hq : w'.rowIs q 44 2 (prF x p)) (nP : ∀ k, PHas x vb k → w.heap.size ≤ k) (nR : ∀ k, b.has p k → w.heap.size ≤ k) (nq : w.heap.size ≤ q) (d : ∀ k, PHas x vb k → ¬ b.has p k) (dq : ¬ PHas x vb q ∧ ¬ b.has p q) :
    Sc w' B vm (s.push q x p vb b M) := by
  have hB := h.lt
  have h' := h.sc.below hb
  have hv : ∀ k, vm.ownBlock = some k → k < w.heap.size := fun k hk => (h.own.lt k hk).2
  have hm : (s.push q x p vb b M).m = s.m + 1 := rfl
  have qm : (s.push q x p vb b M).q s.m = q := upd_self _ _ _
  have qo : ∀ i, i < s.m → (s.push q x p vb b M).q i = s.q i := fun i hi => upd_ne _ _ (by omega)
  have hq0 : ∀ i, i < s.m → s.q i < w.heap.size := fun i hi => (h.sc.pair i hi).lt
  have each : ∀ a, a < 2 * (s.m + 1) → a < 2 * s.m ∨ a = 2 * s.m ∨ a = 2 * s.m + 1 := fun a ha => by omega
  have new : ∀ a k, a = 2 * s.m ∨ a = 2 * s.m + 1 → (s.push q x p vb b M).own a k → w.heap.size ≤ k ∧ k ≠ q := by
    rintro a k (rfl | rfl) hk
    · rw [Mks.push_p] at hk
      exact ⟨nP k hk, fun e => dq.1 (e ▸ hk)⟩
    · rw [Mks.push_r] at hk
      exact ⟨nR k hk, fun e => dq.2 (e ▸ hk)⟩
  refine ⟨?_, ?_, ?_, ?_, ?_, ?_⟩
  · intro i hi
    rw [hm] at hi
    by_cases e : i = s.m
    · subst e
      simp only [Mks.push, upd_self]
      exact hq
    · simp only [Mks.push, upd_ne _ _ e]
      exact h'.pair i (by omega)
  · intro i hi
    rw [hm] at hi
    by_cases e : i = s.m
    · subst e
      simp only [Mks.push, upd_self]
      exact hP
    · simp only [Mks.push, upd_ne _ _ e]
      exact h'.pm i (by omega)
  · intro i hi
    rw [hm] at hi
    by_cases e : i = s.m
    · subst e
      simp only [Mks.push, upd_self]
      exact hR
    · simp only [Mks.push, upd_ne _ _ e]
      exact h'.rf i (by omega)
  · intro a c ha hc hac k h1 h2
    rw [hm] at ha hc
    rcases each a ha with ha' | ha'
    · have k1 := (s.push_old q x p vb b M ha' k).1 h1
      have hl := h.sc.lt ha' k1
      rcases each c hc with hc' | hc'
      · exact h.sc.dis a c ha' hc' hac k k1 ((s.push_old q x p vb b M hc' k).1 h2)
      · have := (new c k hc' h2).1; omega
    · rcases each c hc with hc' | hc'
      · have k2 := (s.push_old q x p vb b M hc' k).1 h2
        have hl := h.sc.lt hc' k2
        have := (new a k ha' h1).1; omega
      · rcases ha' with rfl | rfl
        · rcases hc' with rfl | rfl
          · exact hac rfl
          · rw [Mks.push_p] at h1
            rw [Mks.push_r] at h2
            exact d k h1 h2
        · rcases hc' with rfl | rfl
          · rw [Mks.push_r] at h1
            rw [Mks.push_p] at h2
            exact d k h2 h1
          · exact hac rfl
  · intro a ha k hk
    rw [hm] at ha
    rcases each a ha with ha' | ha'
    · have k1 := (s.push_old q x p vb b M ha' k).1 hk
      obtain ⟨f1, f2, f3⟩ := h.sc.fix a ha' k k1
      have hl := h.sc.lt ha' k1
      refine ⟨f1, fun i hi => ?_, f3⟩
      rw [hm] at hi
      by_cases e : i = s.m
      · subst e; rw [qm]; omega
      · rw [qo i (by omega)]; exact f2 i (by omega)
    · obtain ⟨n1, n2⟩ := new a k ha' hk
      refine ⟨by omega, fun i hi => ?_, fun e => ?_⟩
      · rw [hm] at hi
        by_cases e : i = s.m
        · subst e; rw [qm]; exact n2
        · rw [qo i (by omega)]; have := hq0 i (by omega); omega
      · have := hv k e; omega
  · intro i hi
    rw [hm] at hi
    by_cases e : i = s.m
    · subst e
      rw [qm]
      exact ⟨by omega, fun e => by have := hv _ e; omega⟩
    · rw [qo i (by omega)]
      exact h.sc.qB i (by omega)

theorem ext_push {E : Ext} {w : World} {B : Nat} {vm : Value} {s : Mks} (h : Sm E w B vm s) {q x p : Nat} {vb : Nat → Value} {b : RB} {M : Mk.Mkt}
    (nP : ∀ k, PHas x vb k → w.heap.size ≤ k) (nR : ∀ k, b.has p k → w.heap.size ≤ k) (nq : w.heap.size ≤ q) {k : Nat} (hk : E.X k) : (∀ i, i < (s.push q x p vb b M).m → k ≠ (s.push q x p vb b M).q i) ∧ ∀ a, a < 2 * (s.push q x p vb b M).m → ¬ (s.push q x p vb b M).own a k := by
  obtain ⟨x1, x2, x3, x4, x5, x6⟩ := h.ext k hk
  have hm : (s.push q x p vb b M).m = s.m + 1 := rfl
  refine ⟨fun i hi => ?_, fun a ha hk' => ?_⟩
  · rw [hm] at hi
    by_cases e : i = s.m
    · subst e
      rw [show (s.push q x p vb b M).q s.m = q from upd_self _ _ _]
      omega
    · rw [show (s.push q x p vb b M).q i = s.q i from upd_ne _ _ e]
      exact x5 i (by omega)
  · rw [hm] at ha
    obtain h1 | h1 | h1 : a < 2 * s.m ∨ a = 2 * s.m ∨ a = 2 * s.m + 1 := by omega
    · exact x6 a h1 ((s.push_old q x p vb b M h1 k).1 hk')
    · subst h1; rw [Mks.push_p] at hk'; have := nP k hk'; omega
    · subst h1; rw [Mks.push_r] at hk'; have := nR k hk'; omega

/-- the row of markets grows -/
theorem Sc.grown {w w' : World} {B : Nat} {vm : Value} {s : Mks} (h : Sc w B vm s) (hg : w.grownBy w' vm.ownBlock) {gg n c : Nat} (hat : vm.ownBlock = some gg ∨ w.heap.size ≤ gg) : Sc w' B (.slice (some ⟨gg, 0, none⟩) n c) s := by
  have h2 : Sc w' B vm s := h.blocks (fun i hi => hg.block _ (h.pair i hi).lt (fun e => (h.qB i hi).2 e.symm)) (fun a ha k hk => hg.block k (h.lt ha hk) (fun e => (h.fix a ha k hk).2.2 e.symm))
  refine ⟨h2.pair, h2.pm, h2.rf, h2.dis, fun a ha k hk => ?_, fun i hi => ?_⟩
  · obtain ⟨f1, f2, f3⟩ := h.fix a ha k hk
    refine ⟨f1, f2, fun e => ?_⟩
    have e' : gg = k := by simpa [Value.ownBlock] using e
    subst e'
    rcases hat with e1 | e1
    · exact f3 e1
    · have := h.lt ha hk; omega
  · obtain ⟨f1, f2⟩ := h.qB i hi
    refine ⟨f1, fun e => ?_⟩
    have e' : gg = s.q i := by simpa [Value.ownBlock] using e
    rcases hat with e1 | e1
    · exact f2 (by rw [e1, e'])
    · have := (h.pair i hi).lt; omega

end Go.Proofs.YtmebcdpdpcpnmaaGreatDoor

namespace Go.Proofs.YtmebcdpdpcpnmaaGreatDoor
open Go.RowKit

theorem has_yes {s t : ByteArray} {k : Nat} (h : k + t.size ≤ s.size) (h1 : Mk.hasAt s t k = true) : Mk.has s t = true := by
  unfold Mk.has
  rw [Bool.and_eq_true, decide_eq_true_eq]
  exact ⟨by omega, Mk.hasTo_at (k := s.size - t.size + 1) (i := k) (by omega) h1⟩

set_option maxRecDepth 100000 in
set_option maxHeartbeats 2000000 in
theorem says_any (s t : ByteArray) (w : World) (hs : s.size ≤ 2000000) (ht : t.size ≤ 2000000) :
    Calls Tryz.prog 14 #[.string s, .string t] w fun e w' => e = .returned (.bool (Mk.has s t)) ∧ w' = w := by
  go_enter Tryz.func14, Tryz.ntmps14
  go_wp2
  go_loop [5] (fun j => ∃ k : Nat, j = .int .i64 k ∧ (k = 0 ∨ k + t.size ≤ s.size + 1) ∧ Mk.hasTo s t k = false) (fun j => s.size + 1 - (intOf j).toNat)
  case atStart => exact ⟨0, rfl, .inl rfl, rfl⟩
  case round =>
    obtain ⟨k, rfl, hk, hf⟩ := hrel
    have HF : Hid (Mk.hasTo s t k = false) := hf
    have HK : Hid (k = 0 ∨ k + t.size ≤ s.size + 1) := hk
    have hkb : k ≤ 2000001 := by omega
    have hkb' : (k : Int) ≤ 2000001 := by omega
    clear hf hk
    by_cases hlt : k + t.size ≤ s.size
    · have hlt' : (k : Int) + (t.size : Int) ≤ (s.size : Int) := by omega
      by_cases hat : Mk.hasAt s t k = true
      · have HY : Hid (Mk.has s t = true) := has_yes hlt hat
        have hat' : ((s.extract k (k + t.size)).toList == t.toList) = true := hat
        clear hat
        go_wp2
        go_ret
        exact ⟨by rw [HY.out]; rfl, rfl⟩
      · have hat' : ((s.extract k (k + t.size)).toList == t.toList) = false := Bool.eq_false_iff.2 hat
        have HS : Hid (Mk.hasTo s t (k + 1) = false) := by
          show (Mk.hasTo s t k || Mk.hasAt s t k) = false
          rw [HF.out, Bool.eq_false_iff.2 hat]; rfl
        clear hat
        go_wp2
        go_round
        case rel => exact ⟨k + 1, by go_num, .inr (by omega), HS.out⟩
        case measure => simp [intOf]; omega
    · have hlt' : ¬ (k : Int) + (t.size : Int) ≤ (s.size : Int) := by omega
      have HN : Hid (Mk.has s t = false) := by
        show (decide (t.size ≤ s.size) && Mk.hasTo s t (s.size - t.size + 1)) = false
        by_cases hle : t.size ≤ s.size
        · have : s.size - t.size + 1 = k := by
            rcases HK.out with h0 | h1 <;> omega
          rw [this, HF.out, Bool.and_false]
        · have : decide (t.size ≤ s.size) = false := by rw [decide_eq_false_iff_not]; exact hle
          rw [this]; rfl
      go_wp2
      go_ret
      exact ⟨by rw [HN.out]; rfl, rfl⟩

end Go.Proofs.YtmebcdpdpcpnmaaGreatDoor

namespace Go.Proofs.YtmebcdpdpcpnmaaGreatDoor
open Go.RowKit

/-- has a text one of some words in it? -/
def Mk.hasAny (s : ByteArray) (ws : List ByteArray) : Bool := ws.any (fun t => Mk.has s t)
def Mk.wordAt (ws : List ByteArray) (i : Nat) : ByteArray := ws.getD i ⟨#[]⟩
theorem Mk.wordAt_eq {ws : List ByteArray} {i : Nat} (h : i < ws.length) : Mk.wordAt ws i = ws[i] := by simp [Mk.wordAt, List.getD, List.getElem?_eq_getElem h]

set_option maxRecDepth 100000 in
set_option maxHeartbeats 2000000 in
theorem saysAny_any (s : ByteArray) (g cap : Nat) (ws : List ByteArray) (w : World) (hs : s.size ≤ 2000000) (hw : ∀ x ∈ ws, x.size ≤ 100) (hn : ws.length ≤ 100) (hc : ∀ i, i < ws.length → w.cell? ⟨g, i, none⟩ = some (.string (Mk.wordAt ws i))) :
    Calls Tryz.prog 11 #[.string s, .slice (some ⟨g, 0, none⟩) ws.length cap] w fun e w' => e = .returned (.bool (Mk.hasAny s ws)) ∧ w' = w := by
  have HC : Hid (∀ i, i < ws.length → w.cell? ⟨g, i, none⟩ = some (.string (Mk.wordAt ws i))) := hc
  have HW : Hid (∀ i, i < ws.length → (Mk.wordAt ws i).size ≤ 100) := fun i hi => by rw [Mk.wordAt_eq hi]; exact hw _ (List.getElem_mem hi)
  clear hc hw
  go_enter Tryz.func11, Tryz.ntmps11
  go_wp2
  go_loop [5] (fun j => ∃ k : Nat, k ≤ ws.length ∧ j = .int .i64 k ∧ ∀ i, i < k → Mk.has s (Mk.wordAt ws i) = false) (fun j => ws.length - (intOf j).toNat)
  case atStart => exact ⟨0, Nat.zero_le _, rfl, fun i hi => by omega⟩
  case round =>
    obtain ⟨k, hk, rfl, hf⟩ := hrel
    have HF : Hid (∀ i, i < k → Mk.has s (Mk.wordAt ws i) = false) := hf
    clear hf
    by_cases hlt : k < ws.length
    · have hlt' : (k : Int) < (ws.length : Int) := by omega
      have ck := HC.out k hlt
      have hwk := HW.out k hlt
      go_wp2_with fail
      refine (says_any s (Mk.wordAt ws k) w hs (by omega)).mono ?_
      rintro e w2 ⟨rfl, hw2⟩
      obtain rfl := hw2.symm
      by_cases hh : Mk.has s (Mk.wordAt ws k) = true
      · have HY : Hid (Mk.hasAny s ws = true) := by
          unfold Mk.hasAny
          rw [List.any_eq_true]
          exact ⟨ws[k], List.getElem_mem hlt, by rw [← Mk.wordAt_eq hlt]; exact hh⟩
        go_wp2
        go_ret
        exact ⟨by rw [HY.out]; rfl, rfl⟩
      · have hh' : Mk.has s (Mk.wordAt ws k) = false := by simpa using hh
        have HF' : Hid (∀ i, i < k + 1 → Mk.has s (Mk.wordAt ws i) = false) := by
          intro i hi
          by_cases e : i = k
          · subst e; exact hh'
          · exact HF.out i (by omega)
        clear hh
        go_wp2
        go_round
        case rel => exact ⟨k + 1, by omega, by go_num, HF'.out⟩
        case measure => simp [intOf]; omega
    · obtain rfl : k = ws.length := by omega
      have HN : Hid (Mk.hasAny s ws = false) := by
        unfold Mk.hasAny
        rw [List.any_eq_false]
        intro x hx
        obtain ⟨i, hi, rfl⟩ := List.mem_iff_getElem.1 hx
        rw [← Mk.wordAt_eq hi, HF.out i hi]
        simp
      go_wp2
      go_ret
      exact ⟨by rw [HN.out]; rfl, rfl⟩

end Go.Proofs.YtmebcdpdpcpnmaaGreatDoor

namespace Go.Proofs.YtmebcdpdpcpnmaaGreatDoor
open Go.RowKit

theorem Tryz.infoPair : (Tryz.prog.info? 42).map (fun i => (i.zero, i.size, i.bytes)) = some (some (.pointer none), 1, 8) := by kernel_rfl
theorem phas_nil {x k : Nat} (h : PHas x nilV k) : k = x := by
  rcases h with h | ⟨v, _, h⟩
  · exact h
  · simp [nilV, Value.ownBlock] at h

section
variable {E : Ext} {D : Mk.Mkt → ByteArray → ByteArray × Int × Mk.Mkt} {Inv : Mk.Mkt → Nat → Prop} {Ok : ByteArray → Prop}

theorem inv_any (hD : Doing D Inv Ok) : ∀ k, Inv Mk.Mkt.new k
  | 0 => hD.new
  | k + 1 => hD.up _ _ (inv_any hD k)

set_option maxRecDepth 100000 in
set_option maxHeartbeats 4000000 in
theorem step_new (hD : Doing D Inv Ok) (B : Nat) (vm : Value) (s : Mks) (k : Nat) (m a b : Int) (t : ByteArray) (oa : Option Addr) (n cap : Nat) (w : World) (hk : k < 1048576) (hm : s.m ≤ k)
    (hS : Sm E w B vm s) (hI : ∀ i, i < s.m → s.Mp i = s.Mr i ∧ Inv (s.Mp i) k) :
    Calls Tryz.prog 12 #[.pointer (some ⟨B, 0, none⟩), opV 4 m a b t oa n cap] w fun e w' => Lm E Inv w B k e w' := by
  obtain ⟨i0, hi0, hz0, hz1, hz2⟩ := info_parts Tryz.infoPair
  obtain ⟨ao, co, rfl⟩ := own_form hS.own
  have HD : Hid (Doing D Inv Ok) := hD
  have HI : Hid (∀ i, i < s.m → s.Mp i = s.Mr i ∧ Inv (s.Mp i) k) := hI
  have HB1 : Hid (Below w.heap.size w (w.alloc (opO 4 m a b t oa n cap))) := (Below.refl _ _).alloc (Nat.le_refl _) _
  have HS1 : Hid (Sm E (w.alloc (opO 4 m a b t oa n cap)) B (.slice ao s.m co) s) := hS.below HB1.out
  have hBw := hS.lt
  clear hI hS hD
  go_enter Tryz.func12, Tryz.ntmps12
  go_wp2_with fail
  generalize w.alloc (opO 4 m a b t oa n cap) = W1 at *
  refine (pnew_any W1).mono ?_
  rintro e w2 ⟨rfl, hP2, hb2⟩
  have HP2 : Hid (PM w2 W1.heap.size nilV Mk.Mkt.new) := hP2
  have HB2 : Hid (Below W1.heap.size W1 w2) := hb2
  clear hP2 hb2
  go_wp2_with fail
  refine (rnew_any w2).mono ?_
  rintro e w3 ⟨p, bb, rfl, hR3, hn3, hb3⟩
  have HR3 : Hid (Ref w3 p bb Mk.Mkt.new) := hR3
  have HN3 : Hid (∀ k, bb.has p k → w2.heap.size ≤ k) := hn3
  have HB3 : Hid (Below W1.heap.size W1 w3) := HB2.out.trans (hb3.mono HB2.out.size)
  have HP3 : Hid (PM w3 W1.heap.size nilV Mk.Mkt.new) := HP2.out.below hb3
  have HS3 : Hid (Sm E w3 B (.slice ao s.m co) s) := HS1.out.below HB3.out
  have hx2 : W1.heap.size < w2.heap.size := HP2.out.box.lt
  have hx3 : w2.heap.size ≤ w3.heap.size := hb3.size
  clear hR3 hn3 hb3
  have c0 := HS3.out.c0
  have z0 := HS3.out.z0
  have hB3 := HS3.out.lt
  -- the pair
  have HBq : Hid (Below w3.heap.size w3 (w3.alloc (.cells #[.pointer (some ⟨W1.heap.size, 0, none⟩), .pointer (some ⟨p, 0, none⟩)] 44))) := (Below.refl _ _).alloc (Nat.le_refl _) _
  have HC : Hid (Sc (w3.alloc (.cells #[.pointer (some ⟨W1.heap.size, 0, none⟩), .pointer (some ⟨p, 0, none⟩)] 44)) B (.slice ao s.m co) (s.push w3.heap.size W1.heap.size p nilV bb Mk.Mkt.new)) := by
    refine Sc.push HS1.out (HB3.out.trans (HBq.out.mono HB3.out.size)) (HP3.out.below HBq.out) (HR3.out.below HBq.out) ?_ (fun k hk => by rw [phas_nil hk]; exact Nat.le_refl _) (fun k hk => by have := HN3.out k hk; omega) (by omega) (fun k hk hk' => by have := HN3.out k hk'; have := phas_nil hk; omega) ⟨fun h => by have := phas_nil h; omega, fun h => by have := HR3.out.lt h; omega⟩
    exact World.rowIs_alloc w3 #[.pointer (some ⟨W1.heap.size, 0, none⟩), .pointer (some ⟨p, 0, none⟩)] 44 (prF W1.heap.size p) (fun i hi => by match i, hi with | 0, _ => rfl | 1, _ => rfl)
  have HOw : Hid ((w3.alloc (.cells #[.pointer (some ⟨W1.heap.size, 0, none⟩), .pointer (some ⟨p, 0, none⟩)] 44)).ownsRow (B + 1) 42 1 (.slice ao s.m co) s.m (ptrs s.q s.m)) := own_below HS3.out.own HBq.out (fun k hk => (HS3.out.own.lt k hk).2)
  go_upto_region 9 with fail
  go_wp2_with (at_builtin; (refine wpList_append_lies _ rfl _ _ _ rfl (B + 1) 42 i0 _ 1 8 Tryz.underlying27 hi0 hz0 hz1 hz2 rfl (by omega) _ s.m (ptrs s.q s.m) rfl (HOw.out.alloc _) ⟨w3.heap.size + 1, 0, none⟩ 1 1 [.pointer (some ⟨w3.heap.size, 0, none⟩)] rfl rfl (World.news_of_block (cs := #[.pointer (some ⟨w3.heap.size, 0, none⟩)]) (t := 42) (fr := (0, 0)) ?_) (by simp [Value.oneCell']) (by omega) (by unfold maxLen; omega) (by omega) (by simp; omega) (w3.heap.size + 2) (by simp) ?_))
  · have h := heap_alloc_new (w3.alloc (.cells #[.pointer (some ⟨W1.heap.size, 0, none⟩), .pointer (some ⟨p, 0, none⟩)] 44)) (.cells #[.pointer (some ⟨w3.heap.size, 0, none⟩)] 42)
    simpa using h
  · intro gg cap' w5 hown5 hgrow hat hlt5
    have hb4 : Below w3.heap.size w3 ((w3.alloc (.cells #[.pointer (some ⟨W1.heap.size, 0, none⟩), .pointer (some ⟨p, 0, none⟩)] 44)).alloc (.cells #[.pointer (some ⟨w3.heap.size, 0, none⟩)] 42)) := HBq.out.alloc (by simp) _
    have hfar : some B ≠ (Value.slice ao s.m co).ownBlock := fun e => by have := (HS3.out.own.lt B e.symm).1; omega
    have hl4 : w3.heap.size ≤ ((w3.alloc (.cells #[.pointer (some ⟨W1.heap.size, 0, none⟩), .pointer (some ⟨p, 0, none⟩)] 44)).alloc (.cells #[.pointer (some ⟨w3.heap.size, 0, none⟩)] 42)).heap.size := hb4.size
    have cell5 : ∀ i, w5.cell? ⟨B, i, none⟩ = w3.cell? ⟨B, i, none⟩ := fun i => (hgrow.cell_far ⟨B, i, none⟩ (by show B < _; omega) hfar).trans (hb4.cell (p := ⟨B, i, none⟩) hB3)
    have d0 : w5.cell? ⟨B, 0, none⟩ = some (.slice ao s.m co) := (cell5 0).trans c0
    have d1 : w5.cell? ⟨B, 1, none⟩ = some E.v1 := (cell5 1).trans HS3.out.c1
    have d2 : w5.cell? ⟨B, 2, none⟩ = some E.v2 := (cell5 2).trans HS3.out.c2
    have froz5 : ∀ i, w5.frozen? ⟨B, i, none⟩ = w3.frozen? ⟨B, i, none⟩ := fun i => (hgrow.frozen_far ⟨B, i, none⟩ (by show B < _; omega) hfar).trans (hb4.frozen (p := ⟨B, i, none⟩) hB3)
    have hfar2 : ∀ k, E.X k → (w5.setCell ⟨B, 0, none⟩ (.slice (some ⟨gg, 0, none⟩) (s.m + 1) cap')).heap[k]? = E.H k ∧ k < w5.heap.size ∧ gg ≠ k := fun k hk => by
      obtain ⟨x1, x2, x3, x4, _⟩ := HS3.out.ext k hk
      refine ⟨(Below.heap_setCell w5 _ _ k x3).trans ((hgrow.block k (by omega) (fun e => x4 e.symm)).trans ((hb4.block k x1).trans x2)), ?_, fun e => ?_⟩
      · have := hgrow.size; omega
      · rcases hat with e1 | e1
        · exact x4 (e ▸ e1)
        · rw [e1] at e; omega
    have y0 : w5.frozen? ⟨B, 0, none⟩ = false := ((hgrow.frozen_far ⟨B, 0, none⟩ (by show B < _; omega) hfar).trans (hb4.frozen (p := ⟨B, 0, none⟩) hB3)).trans z0
    have HSm : Hid (Sm E (w5.setCell ⟨B, 0, none⟩ (.slice (some ⟨gg, 0, none⟩) (s.m + 1) cap')) B (.slice (some ⟨gg, 0, none⟩) (s.m + 1) cap') (s.push w3.heap.size W1.heap.size p nilV bb Mk.Mkt.new)) := by
      refine ⟨cell_set_same d0, by simpa using y0, cell_set_ne (by omega) d1, by simpa using (froz5 1).trans HS3.out.z1, cell_set_ne (by omega) d2, by simpa using (froz5 2).trans HS3.out.z2, ?_, ?_, fun k hk => ?_⟩
      · show World.ownsRow _ (B + 1) 42 1 _ (s.m + 1) (ptrs (upd s.q s.m w3.heap.size) (s.m + 1))
        rw [ptrs_push]
        exact ownsRow_setCell_below hown5 (by simp) _
      · refine Sc.setB ?_ _ _
        have h1 := HC.out.below ((Below.refl _ _).alloc (Nat.le_refl _) (.cells #[.pointer (some ⟨w3.heap.size, 0, none⟩)] 42))
        refine h1.grown hgrow ?_
        rcases hat with e | e
        · exact .inl e
        · exact .inr (by rw [e]; simp)
      · obtain ⟨f1, f2, f3⟩ := hfar2 k hk
        obtain ⟨p1, p2⟩ := ext_push (q := w3.heap.size) (x := W1.heap.size) (p := p) (vb := nilV) (b := bb) (M := Mk.Mkt.new) HS1.out (fun k hk => by rw [phas_nil hk]; exact Nat.le_refl _) (fun k hk => by have := HN3.out k hk; omega) (by omega) hk
        exact ⟨by simpa using f2, f1, (HS3.out.ext k hk).2.2.1, fun e => f3 (by simpa [Value.ownBlock] using e), p1, p2⟩
    have HBf : Hid (Below B w (w5.setCell ⟨B, 0, none⟩ (.slice (some ⟨gg, 0, none⟩) (s.m + 1) cap'))) := by
      have h1 : Below B w w3 := (HB1.out.mono (by omega)).trans (HB3.out.mono (by have := HS1.out.lt; omega))
      have h2 : Below B w ((w3.alloc (.cells #[.pointer (some ⟨W1.heap.size, 0, none⟩), .pointer (some ⟨p, 0, none⟩)] 44)).alloc (.cells #[.pointer (some ⟨w3.heap.size, 0, none⟩)] 42)) := h1.trans (hb4.mono (by omega))
      refine (h2.grown hgrow (by omega) (fun k hk => ?_)).setCell (p := ⟨B, 0, none⟩) (Nat.le_refl _) _
      have := (HS3.out.own.lt k hk).1
      omega
    have HIv : Hid (∀ j, j < s.m + 1 → upd s.Mp s.m Mk.Mkt.new j = upd s.Mr s.m Mk.Mkt.new j ∧ Inv (upd s.Mp s.m Mk.Mkt.new j) (k + 1)) := fun j hj => by
      by_cases e : j = s.m
      · subst e
        rw [upd_self, upd_self]
        exact ⟨rfl, inv_any HD.out _⟩
      · rw [upd_ne _ _ e, upd_ne _ _ e]
        exact ⟨(HI.out j (by omega)).1, HD.out.up _ _ (HI.out j (by omega)).2⟩
    clear hown5 hgrow hat hlt5 hb4 hfar hl4 cell5 d1 d2 froz5 hfar2 c0 z0
    go_wp2
    go_ret
    exact ⟨rfl, _, _, HSm.out, HIv.out, by show s.m + 1 ≤ k + 1; omega, HBf.out⟩

end

end Go.Proofs.YtmebcdpdpcpnmaaGreatDoor
