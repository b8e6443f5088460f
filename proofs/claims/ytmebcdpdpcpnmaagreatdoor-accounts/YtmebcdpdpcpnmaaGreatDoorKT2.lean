import Derived.Test.YtmebcdpdpcpnmaaGreatDoorKT1
import Derived.Deep.CutBlock
namespace Go.Proofs.YtmebcdpdpcpnmaaGreatDoor
open Go.RowKit

/-- what a statement on markets asks of Do: the pure Do, what stays true of a market, which texts -/
structure Doing (D : Mk.Mkt → ByteArray → ByteArray × Int × Mk.Mkt) (Inv : Mk.Mkt → Nat → Prop) (Ok : ByteArray → Prop) : Prop where
  fine : ∀ M k, Inv M k → M.Fine
  new : Inv Mk.Mkt.new 0
  up : ∀ M k, Inv M k → Inv M (k + 1)
  step : ∀ M k s, Inv M k → Ok s → Inv (D M s).2.2 (k + 1)
  p : ∀ (p : Nat) (vb : Nat → Value) (M : Mk.Mkt) (k : Nat) (s : ByteArray) (w : World), Inv M k → k ≤ 1048576 → s.size ≤ 1048576 → Ok s → PM w p vb M → Tab w →
    Calls Tryz.prog 31 #[.pointer (some ⟨p, 0, none⟩), .string s] w fun e w' => PDoT p vb (D M s) w e w'
  r : ∀ (p : Nat) (b : RB) (M : Mk.Mkt) (k : Nat) (s : ByteArray) (w : World), Inv M k → k ≤ 1048576 → s.size ≤ 1048576 → Ok s → Ref w p b M →
    Calls Tryz.prog 30 #[.pointer (some ⟨p, 0, none⟩), .string s] w fun e w' => DoT p b (D M s) w e w'

theorem only_drew {S : Nat → Prop} {w w' : World} (h : Only S w.drew w') : Only S w w' := ⟨h.os, h.tape, h.output, h.size, h.block⟩
/-- what a step leaves -/
def Lm (E : Ext) (Inv : Mk.Mkt → Nat → Prop) (w : World) (B k : Nat) (e : Ending) (w' : World) : Prop :=
  e = .returned (.bool true) ∧ ∃ vm s, Sm E w' B vm s ∧ (∀ i, i < s.m → s.Mp i = s.Mr i ∧ Inv (s.Mp i) (k + 1)) ∧ s.m ≤ k + 1 ∧ Below B w w'

abbrev opO (kind m a b : Int) (s : ByteArray) (oa : Option Addr) (n cap : Nat) : Obj := .cells #[.int .i64 kind, .int .i64 m, .int .i64 a, .int .i64 b, .string s, .slice oa n cap] 33

section
variable {E : Ext} {D : Mk.Mkt → ByteArray → ByteArray × Int × Mk.Mkt} {Inv : Mk.Mkt → Nat → Prop} {Ok : ByteArray → Prop}

set_option maxRecDepth 100000 in
set_option maxHeartbeats 4000000 in
theorem call_do (hD : Doing D Inv Ok) (B : Nat) (vm : Value) (s : Mks) (i k : Nat) (m a b : Int) (t : ByteArray) (oa : Option Addr) (n cap : Nat) (w : World) (hk : k < 1048576) (hm : s.m ≤ k) (hi : i < s.m) (ht : t.size ≤ 1048576) (hok : Ok t) (hT : Tab w) (hg : ∀ g, Tryz.prog.globalNamed "internal/strconv.uint64pow10" = some g → g < B)
    (hS : Sm E w B vm s) (hI : ∀ i, i < s.m → s.Mp i = s.Mr i ∧ Inv (s.Mp i) k) :
    Calls Tryz.prog 22 #[.pointer (some ⟨s.q i, 0, none⟩), opV 5 m a b t oa n cap] w fun e w' => Lm E Inv w B k e w' := by
  have HI : Hid (∀ i, i < s.m → s.Mp i = s.Mr i ∧ Inv (s.Mp i) k) := hI
  have HB1 : Hid (Below w.heap.size w (w.alloc (opO 5 m a b t oa n cap))) := (Below.refl _ _).alloc (Nat.le_refl _) _
  have HS1 : Hid (Sm E (w.alloc (opO 5 m a b t oa n cap)) B vm s) := hS.below HB1.out
  have HS0 : Hid (Sm E w B vm s) := hS
  have hBw := hS.lt
  have HT1 : Hid (Tab (w.alloc (opO 5 m a b t oa n cap))) := hT.next HB1.out
  have x4 : (w.alloc (opO 5 m a b t oa n cap)).cell? ⟨w.heap.size, 4, none⟩ = some (.string t) := by simp
  have hwl : w.heap.size < (w.alloc (opO 5 m a b t oa n cap)).heap.size := by simp
  have HG : Hid (∀ g, Tryz.prog.globalNamed "internal/strconv.uint64pow10" = some g → g < B) := hg
  have HD : Hid (Doing D Inv Ok) := hD
  have HOk : Hid (Ok t) := hok
  clear hI hS hT hg hD hok
  go_enter Tryz.func22, Tryz.ntmps22
  go_upto_region 3 with fail
  generalize w.alloc (opO 5 m a b t oa n cap) = W1 at *
  have q0 := (HS1.out.sc.pair i hi).cell (i := 0) (by omega)
  have q1 := (HS1.out.sc.pair i hi).cell (i := 1) (by omega)
  simp only [prF] at q0 q1
  have hMi : s.Mr i = s.Mp i := (HI.out i hi).1.symm
  have HRi : Hid (Ref W1 (s.pr i) (s.rb i) (s.Mp i)) := (by have := HS1.out.sc.rf i hi; rw [hMi] at this; exact this : Ref W1 (s.pr i) (s.rb i) (s.Mp i))
  have HPi : Hid (PM W1 (s.px i) (s.vb i) (s.Mp i)) := HS1.out.sc.pm i hi
  have HCp : Hid (Calls Tryz.prog 31 #[.pointer (some ⟨s.px i, 0, none⟩), .string t] W1.drew fun e w' => PDoT (s.px i) (s.vb i) (D (s.Mp i) t) W1.drew e w') := (HD.out.p (s.px i) (s.vb i) (s.Mp i) k t W1.drew (HI.out i hi).2 (by omega) ht HOk.out (HPi.out.below (Below.refl _ _).drew) (HT1.out.next (Below.refl _ _).drew))
  go_cut [5, 6] from 19 to 28 (fun x y wx => x = .string (D (s.Mp i) t).1 ∧ y = .int .i64 (D (s.Mp i) t).2.1 ∧ ∃ vb', PM wx (s.px i) vb' (D (s.Mp i) t).2.2 ∧ Only (PHas (s.px i) (s.vb i)) W1 wx ∧ ∀ k, PHas (s.px i) vb' k → PHas (s.px i) (s.vb i) k ∨ W1.heap.size ≤ k)
  case first =>
    go_region_with (go_at_call 31; (go_must (refine HCp.out.mono ?_; rintro e w2 ⟨rfl, vb', hP2, ho2, hn2⟩)))
    all_goals
      have HW : Hid (PM w2 (s.px i) vb' (D (s.Mp i) t).2.2 ∧ Only (PHas (s.px i) (s.vb i)) W1 w2 ∧ ∀ k, PHas (s.px i) vb' k → PHas (s.px i) (s.vb i) k ∨ W1.heap.size ≤ k) := ⟨hP2, only_drew ho2, hn2⟩
      clear hP2 ho2 hn2
      go_wp2_with fail
      go_meet
      exact ⟨rfl, rfl, vb', HW.out⟩
  case rest =>
    obtain ⟨rfl, rfl, vb', hP2, ho2, hn2⟩ := hcut
    have hS2 := HS1.out.atP hi hP2 ho2 hn2
    have hb2 := HS1.out.belowP hi ho2
    have q1 := (hS2.sc.pair i hi).cell (i := 1) (by omega)
    simp only [prF] at q1
    have y4 : wc.cell? ⟨w.heap.size, 4, none⟩ = some (.string t) := (ho2.cell hwl (fun h => by have := (HS0.out.sc.pm i hi).lt h; omega)).trans x4
    have hR2 : Ref wc (s.pr i) (s.rb i) (s.Mp i) := by
      have := hS2.sc.rf i hi
      simp only [hMi] at this
      exact this
    have HS2 : Hid (Sm E wc B vm { s with vb := upd s.vb i vb', Mp := upd s.Mp i (D (s.Mp i) t).2.2 }) := hS2
    have HB2 : Hid (Below B w wc) := (HB1.out.mono (by omega)).trans hb2
    have HCr : Hid (Calls Tryz.prog 30 #[.pointer (some ⟨s.pr i, 0, none⟩), .string t] wc.drew fun e w' => DoT (s.pr i) (s.rb i) (D (s.Mp i) t) wc.drew e w') := HD.out.r (s.pr i) (s.rb i) (s.Mp i) k t wc.drew (HI.out i hi).2 (by omega) ht HOk.out (hR2.below (Below.refl _ _).drew)
    clear hS2 hb2 hR2 hP2 ho2 hn2 q0 x4 HRi HPi HCp HS1
    go_upto_region 4 with fail
    go_cut [7, 8] from 29 to 38 (fun x y wx => x = .string (D (s.Mp i) t).1 ∧ y = .int .i64 (D (s.Mp i) t).2.1 ∧ ∃ b', Ref wx (s.pr i) b' (D (s.Mp i) t).2.2 ∧ Only ((s.rb i).has (s.pr i)) wc wx ∧ ∀ k, b'.has (s.pr i) k → (s.rb i).has (s.pr i) k ∨ wc.heap.size ≤ k)
    case first =>
      go_region_with (go_at_call 30; (go_must (refine HCr.out.mono ?_; rintro e w2 ⟨rfl, b', hP2, ho2, hn2⟩)))
      all_goals
        have HW : Hid (Ref w2 (s.pr i) b' (D (s.Mp i) t).2.2 ∧ Only ((s.rb i).has (s.pr i)) wc w2 ∧ ∀ k, b'.has (s.pr i) k → (s.rb i).has (s.pr i) k ∨ wc.heap.size ≤ k) := ⟨hP2, only_drew ho2, hn2⟩
        clear hP2 ho2 hn2
        go_wp2_with fail
        go_meet
        exact ⟨rfl, rfl, b', HW.out⟩
    case rest =>
      obtain ⟨rfl, rfl, b', hR3, ho3, hn3⟩ := hcut
      have hS3 := HS2.out.atR hi hR3 ho3 hn3
      have HS3 := (show Hid _ from hS3)
      have HB3 : Hid (Below B w wc) := HB2.out.trans (HS2.out.belowR hi ho3)
      have HI3 : Hid (∀ j, j < s.m → upd s.Mp i (D (s.Mp i) t).2.2 j = upd s.Mr i (D (s.Mp i) t).2.2 j ∧ Inv (upd s.Mp i (D (s.Mp i) t).2.2 j) (k + 1)) := fun j hj => by
        by_cases e : j = i
        · subst e
          rw [upd_self, upd_self]
          exact ⟨rfl, HD.out.step _ _ _ (HI.out j hj).2 HOk.out⟩
        · rw [upd_ne _ _ e, upd_ne _ _ e]
          exact ⟨(HI.out j hj).1, HD.out.up _ _ (HI.out j hj).2⟩
      clear hS3 hR3 ho3 hn3 HS2 HB2 HCr q1 y4
      go_wp2
      go_ret
      exact ⟨by simp, vm, _, HS3.out, HI3.out, by show s.m ≤ k + 1; omega, HB3.out⟩

set_option maxRecDepth 100000 in
set_option maxHeartbeats 4000000 in
theorem call_show (hD : Doing D Inv Ok) (B : Nat) (vm : Value) (s : Mks) (i k : Nat) (m a b : Int) (t : ByteArray) (oa : Option Addr) (n cap : Nat) (w : World) (hm : s.m ≤ k) (hi : i < s.m) (hT : Tab w)
    (hS : Sm E w B vm s) (hI : ∀ i, i < s.m → s.Mp i = s.Mr i ∧ Inv (s.Mp i) k) :
    Calls Tryz.prog 22 #[.pointer (some ⟨s.q i, 0, none⟩), opV 6 m a b t oa n cap] w fun e w' => Lm E Inv w B k e w' := by
  have HI : Hid (∀ i, i < s.m → s.Mp i = s.Mr i ∧ Inv (s.Mp i) k) := hI
  have HB1 : Hid (Below w.heap.size w (w.alloc (opO 6 m a b t oa n cap))) := (Below.refl _ _).alloc (Nat.le_refl _) _
  have HS1 : Hid (Sm E (w.alloc (opO 6 m a b t oa n cap)) B vm s) := hS.below HB1.out
  have HT1 : Hid (Tab (w.alloc (opO 6 m a b t oa n cap))) := hT.next HB1.out
  have hBw := hS.lt
  have HD : Hid (Doing D Inv Ok) := hD
  have HF : Hid (s.Mp i).Fine := hD.fine _ _ (hI i hi).2
  have hMi : s.Mr i = s.Mp i := (hI i hi).1.symm
  have HIF : Hid (∀ j, j < s.m → s.Mp j = s.Mr j ∧ Inv (s.Mp j) (k + 1)) := fun j hj => ⟨(HI.out j hj).1, HD.out.up _ _ (HI.out j hj).2⟩
  clear hI hS hT hD
  go_enter Tryz.func22, Tryz.ntmps22
  go_upto_region 7 with fail
  generalize w.alloc (opO 6 m a b t oa n cap) = W1 at *
  have q0 := (HS1.out.sc.pair i hi).cell (i := 0) (by omega)
  simp only [prF] at q0
  go_wp2_with fail
  refine (pshow_any _ _ _ _ HF.out (HS1.out.sc.pm i hi) HT1.out).mono ?_
  rintro e w2 ⟨rfl, hb2⟩
  have HS2 : Hid (Sm E w2 B vm s) := HS1.out.below hb2
  have HB2 : Hid (Below w.heap.size w w2) := HB1.out.trans (hb2.mono HB1.out.size)
  clear hb2 q0
  have q1 := (HS2.out.sc.pair i hi).cell (i := 1) (by omega)
  simp only [prF] at q1
  have HR2 : Hid (Ref w2 (s.pr i) (s.rb i) (s.Mp i)) := (by have := HS2.out.sc.rf i hi; rw [hMi] at this; exact this : Ref w2 (s.pr i) (s.rb i) (s.Mp i))
  go_wp2_with fail
  refine (rshow_any _ _ _ _ HF.out HR2.out).mono ?_
  rintro e w3 ⟨rfl, hb3⟩
  have HS3 : Hid (Sm E w3 B vm s) := HS2.out.below hb3
  have HB3 : Hid (Below w.heap.size w w3) := HB2.out.trans (hb3.mono HB2.out.size)
  clear hb3 q1
  go_wp2_with fail
  go_ret
  exact ⟨by simp, vm, s, HS3.out, HIF.out, by omega, HB3.out.mono (by omega)⟩

set_option maxRecDepth 100000 in
set_option maxHeartbeats 4000000 in
theorem call_last (hD : Doing D Inv Ok) (B : Nat) (vm : Value) (s : Mks) (i k : Nat) (m a b : Int) (t : ByteArray) (oa : Option Addr) (n cap : Nat) (w : World) (hm : s.m ≤ k) (hi : i < s.m)
    (hS : Sm E w B vm s) (hI : ∀ i, i < s.m → s.Mp i = s.Mr i ∧ Inv (s.Mp i) k) :
    Calls Tryz.prog 22 #[.pointer (some ⟨s.q i, 0, none⟩), opV 7 m a b t oa n cap] w fun e w' => Lm E Inv w B k e w' := by
  have HI : Hid (∀ i, i < s.m → s.Mp i = s.Mr i ∧ Inv (s.Mp i) k) := hI
  have HB1 : Hid (Below w.heap.size w (w.alloc (opO 7 m a b t oa n cap))) := (Below.refl _ _).alloc (Nat.le_refl _) _
  have HS1 : Hid (Sm E (w.alloc (opO 7 m a b t oa n cap)) B vm s) := hS.below HB1.out
  have x2 : (w.alloc (opO 7 m a b t oa n cap)).cell? ⟨w.heap.size, 2, none⟩ = some (.int .i64 a) := by simp
  have hwl : w.heap.size < (w.alloc (opO 7 m a b t oa n cap)).heap.size := by simp
  have hBw := hS.lt
  have HD : Hid (Doing D Inv Ok) := hD
  have hMi : s.Mr i = s.Mp i := (hI i hi).1.symm
  have HIF : Hid (∀ j, j < s.m → s.Mp j = s.Mr j ∧ Inv (s.Mp j) (k + 1)) := fun j hj => ⟨(HI.out j hj).1, HD.out.up _ _ (HI.out j hj).2⟩
  clear hI hS hD
  go_enter Tryz.func22, Tryz.ntmps22
  go_upto_region 11 with fail
  generalize w.alloc (opO 7 m a b t oa n cap) = W1 at *
  have q0 := (HS1.out.sc.pair i hi).cell (i := 0) (by omega)
  have q1 := (HS1.out.sc.pair i hi).cell (i := 1) (by omega)
  have hql := (HS1.out.sc.pair i hi).lt
  simp only [prF] at q0 q1
  have HRi : Hid (Ref W1 (s.pr i) (s.rb i) (s.Mp i)) := (by have := HS1.out.sc.rf i hi; rw [hMi] at this; exact this : Ref W1 (s.pr i) (s.rb i) (s.Mp i))
  have HPi : Hid (PM W1 (s.px i) (s.vb i) (s.Mp i)) := HS1.out.sc.pm i hi
  have d0 : ∀ u : Wof (Below W1.heap.size W1), u.val.cell? ⟨s.q i, 0, none⟩ = some (.pointer (some ⟨s.px i, 0, none⟩)) := fun u => (u.ok.cell (p := ⟨s.q i, 0, none⟩) hql).trans q0
  have d2 : ∀ u : Wof (Below W1.heap.size W1), u.val.cell? ⟨w.heap.size, 2, none⟩ = some (.int .i64 a) := fun u => (u.ok.cell (p := ⟨w.heap.size, 2, none⟩) hwl).trans x2
  have hne : Nonempty (Wof (Below W1.heap.size W1)) := ⟨⟨W1, Below.refl _ _⟩⟩
  clear q0
  refine wp_region_calls (S := Below W1.heap.size W1) (by kernel_rfl) (by kernel_rfl) (Below.refl _ _).drew ?_
  repeat (quiet_step ((rename_i u; refine (plast_any _ _ _ _ _ (HPi.out.below u.ok)).mono ?_; rintro e w3 ⟨rfl, hb3⟩; exact ⟨rfl, ⟨w3, u.ok.trans (hb3.mono u.ok.size)⟩, rfl⟩)))
  refine wpQuiet_nil ?_
  rintro _ ⟨u, rfl⟩
  have HB2 : Hid (Below w.heap.size w u.val) := HB1.out.trans (u.ok.mono HB1.out.size)
  have HS2 : Hid (Sm E u.val B vm s) := HS1.out.below u.ok
  have HR2 : Hid (Ref u.val (s.pr i) (s.rb i) (s.Mp i)) := HRi.out.below u.ok
  have y2 : u.val.cell? ⟨w.heap.size, 2, none⟩ = some (.int .i64 a) := d2 u
  have q1' : u.val.cell? ⟨s.q i, 1, none⟩ = some (.pointer (some ⟨s.pr i, 0, none⟩)) := (u.ok.cell (p := ⟨s.q i, 1, none⟩) hql).trans q1
  have hwl2 : w.heap.size < u.val.heap.size := Nat.lt_of_lt_of_le hwl u.ok.size
  have hql2 : s.q i < u.val.heap.size := Nat.lt_of_lt_of_le hql u.ok.size
  clear d0 d2 x2 q1 hne hwl hql
  generalize u.val = W2 at *
  have d1 : ∀ u : Wof (Below W2.heap.size W2), u.val.cell? ⟨s.q i, 1, none⟩ = some (.pointer (some ⟨s.pr i, 0, none⟩)) := fun u => (u.ok.cell (p := ⟨s.q i, 1, none⟩) hql2).trans q1'
  have d2 : ∀ u : Wof (Below W2.heap.size W2), u.val.cell? ⟨w.heap.size, 2, none⟩ = some (.int .i64 a) := fun u => (u.ok.cell (p := ⟨w.heap.size, 2, none⟩) hwl2).trans y2
  have hne : Nonempty (Wof (Below W2.heap.size W2)) := ⟨⟨W2, Below.refl _ _⟩⟩
  clear q1' y2
  go_upto_region 12 with fail
  refine wp_region_calls (S := Below W2.heap.size W2) (by kernel_rfl) (by kernel_rfl) (Below.refl _ _).drew ?_
  repeat (quiet_step ((rename_i u; refine (rlast_any _ _ _ _ _ (HR2.out.below u.ok)).mono ?_; rintro e w3 ⟨rfl, rfl⟩; exact ⟨rfl, u, rfl⟩)))
  refine wpQuiet_nil ?_
  rintro _ ⟨u, rfl⟩
  have HB3 : Hid (Below w.heap.size w u.val) := HB2.out.trans (u.ok.mono HB2.out.size)
  have HS3 : Hid (Sm E u.val B vm s) := HS2.out.below u.ok
  clear d1 d2 hne hwl2 hql2
  generalize u.val = W3 at *
  go_wp2_with fail
  go_ret
  exact ⟨by simp, vm, s, HS3.out, HIF.out, by omega, HB3.out.mono (by omega)⟩

end

end Go.Proofs.YtmebcdpdpcpnmaaGreatDoor
