import Derived.Test.YtmebcdpdpcpnmaaGreatDoorKH2
import Derived.Test.YtmebcdpdpcpnmaaGreatDoorJ2
namespace Go.Proofs.YtmebcdpdpcpnmaaGreatDoor
open Go.RowKit

theorem rsum_dem (a : Option Addr) (cap : Nat) (l : List Mk.Ord) (p : Int) (w : World) (hv : Mk.validB 20 l = true) (hR : Rd w a l) :
    Calls Tryz.prog 64 #[.slice a l.length cap, .bool false, .int .i64 p] w fun e w' => e = .returned (.int .i64 (Mk.dem l p)) ∧ Below w.heap.size w w' := rsum_any a cap l false p w hv hR
theorem rsum_sup (a : Option Addr) (cap : Nat) (l : List Mk.Ord) (p : Int) (w : World) (hv : Mk.validB 20 l = true) (hR : Rd w a l) :
    Calls Tryz.prog 64 #[.slice a l.length cap, .bool true, .int .i64 p] w fun e w' => e = .returned (.int .i64 (Mk.sup l p)) ∧ Below w.heap.size w w' := rsum_any a cap l true p w hv hR

/-- what Price holds behind k rounds -/
def PriceAt (l : List Mk.Ord) (k : Nat) (a b c : Int) : Prop := (k = 0 ∧ a = 0 ∧ b = 0 ∧ c = 0) ∨ ∃ m, k = m + 1 ∧ a = Mk.best l m ∧ b = Mk.vol l (Mk.best l m) ∧ c = Mk.gap l (Mk.best l m)

theorem price_yes {l : List Mk.Ord} {k : Nat} {pa pb pc a b c : Int} (h : PriceAt l k pa pb pc)
    (hc : (a = (k : Int) + 1 ∧ b = Mk.less (Mk.dem l ((k : Int) + 1)) (Mk.sup l ((k : Int) + 1)) ∧ c = Mk.apart (Mk.dem l ((k : Int) + 1)) (Mk.sup l ((k : Int) + 1))) ∧
      (pa = 0 ∨ pb < Mk.less (Mk.dem l ((k : Int) + 1)) (Mk.sup l ((k : Int) + 1)) ∨ Mk.less (Mk.dem l ((k : Int) + 1)) (Mk.sup l ((k : Int) + 1)) = pb ∧ Mk.apart (Mk.dem l ((k : Int) + 1)) (Mk.sup l ((k : Int) + 1)) < pc)) : PriceAt l (k + 1) a b c := by
  obtain ⟨⟨rfl, rfl, rfl⟩, hc⟩ := hc
  right
  rcases h with ⟨rfl, _⟩ | ⟨m, rfl, rfl, rfl, rfl⟩
  · exact ⟨0, rfl, by simp [Mk.best], by simp [Mk.best, Mk.vol], by simp [Mk.best, Mk.gap]⟩
  · have e : ((m + 1 : Nat) : Int) + 1 = (m : Int) + 2 := by omega
    rw [e] at hc ⊢
    have hb := Mk.best_bd l m
    have hbt : Mk.best l (m + 1) = m + 2 := Mk.best_yes l m ((Mk.better_iff l _ _).2 (by
      rcases hc with h0 | h1 | ⟨h2, h3⟩
      · omega
      · exact .inl h1
      · exact .inr ⟨h2, h3⟩))
    refine ⟨m + 1, rfl, ?_, ?_, ?_⟩
    · rw [hbt]; omega
    · rw [hbt]; rfl
    · rw [hbt]; rfl
theorem price_no {l : List Mk.Ord} {k : Nat} {pa pb pc : Int} (h : PriceAt l k pa pb pc)
    (hc : ¬ (pa = 0 ∨ pb < Mk.less (Mk.dem l ((k : Int) + 1)) (Mk.sup l ((k : Int) + 1)) ∨ Mk.less (Mk.dem l ((k : Int) + 1)) (Mk.sup l ((k : Int) + 1)) = pb ∧ Mk.apart (Mk.dem l ((k : Int) + 1)) (Mk.sup l ((k : Int) + 1)) < pc)) : PriceAt l (k + 1) pa pb pc := by
  right
  rcases h with ⟨rfl, rfl, _, _⟩ | ⟨m, rfl, rfl, rfl, rfl⟩
  · exact absurd (.inl rfl) hc
  · have e : ((m + 1 : Nat) : Int) + 1 = (m : Int) + 2 := by omega
    rw [e] at hc
    have hbt : Mk.best l (m + 1) = Mk.best l m := Mk.best_no l m (by
      rw [← Bool.not_eq_true, Mk.better_iff]
      intro h
      apply hc
      rcases h with h1 | ⟨h2, h3⟩
      · exact .inr (.inl h1)
      · exact .inr (.inr ⟨h2, h3⟩))
    refine ⟨m + 1, rfl, ?_, ?_, ?_⟩ <;> rw [hbt]

set_option maxRecDepth 100000 in
set_option maxHeartbeats 2000000 in
theorem price_any (a : Option Addr) (cap : Nat) (l : List Mk.Ord) (w : World) (hv : Mk.validB 20 l = true) (hR : Rd w a l) :
    Calls Tryz.prog 62 #[.slice a l.length cap] w fun e w' => e = .returned (.tuple #[.int .i64 (Mk.best l 98), .int .i64 (Mk.vol l (Mk.best l 98))]) ∧ Below w.heap.size w w' := by
  have HR : Hid (Rd w a l) := hR
  have HV : Hid (Mk.validB 20 l = true) := hv
  clear hR hv
  go_enter Tryz.func62, Tryz.ntmps62
  go_wp2
  go_loopw [4, 5, 6, 7] (fun x y z i wr => ∃ (k : Nat) (pa pb pc : Int), k ≤ 99 ∧ i = .int .i64 ((k : Int) + 1) ∧ x = .int .i64 pa ∧ y = .int .i64 pb ∧ z = .int .i64 pc ∧ PriceAt l k pa pb pc ∧ Below w.heap.size w wr) (fun _ _ _ i _ => 100 - (intOf i).toNat)
  case atStart => exact ⟨0, 0, 0, 0, by omega, rfl, rfl, rfl, rfl, .inl ⟨rfl, rfl, rfl, rfl⟩, Below.refl _ _⟩
  case round =>
    obtain ⟨k, pa, pb, pc, hk, rfl, rfl, rfl, rfl, hP, hb⟩ := hrel
    have Hb : Hid (Below w.heap.size w wr) := hb
    clear hb
    by_cases hlt : k < 99
    · have hlt' : ((k : Int) + 1) ≤ 99 := by omega
      have bd := Mk.dem_bd HV.out ((k : Int) + 1)
      have bs := Mk.sup_bd HV.out ((k : Int) + 1)
      have HP : Hid (PriceAt l k pa pb pc) := hP
      clear hP
      go_wp2_with fail
      refine (rsum_dem a cap l _ _ HV.out (HR.out.below Hb.out)).mono ?_
      rintro e w2 ⟨rfl, hb2⟩
      have Hb2 : Hid (Below w.heap.size w w2) := Hb.out.trans (hb2.mono Hb.out.size)
      clear hb2
      go_wp2_with fail
      refine (rsum_sup a cap l _ _ HV.out (HR.out.below Hb2.out)).mono ?_
      rintro e w3 ⟨rfl, hb3⟩
      have Hb3 : Hid (Below w.heap.size w w3) := Hb2.out.trans (hb3.mono Hb2.out.size)
      clear hb3
      rcases Bool.eq_false_or_eq_true (pa == 0) with h0 | h0
      · have HZ : Hid (pa = 0) := (by simpa using h0 : pa = 0)
        go_wp2_with (go_at_call 93; refine (lesser_any _ _ _ bd bs).mono ?_; rintro e w4 ⟨rfl, rfl⟩)
        all_goals
          go_roundw
          case rel =>
            first
              | (refine ⟨k + 1, _, _, _, by omega, by go_num, rfl, rfl, rfl, price_yes HP.out ?_, Hb3.out⟩; have hz := HZ.out; omega)
              | (refine ⟨k + 1, _, _, _, by omega, by go_num, rfl, rfl, rfl, price_no HP.out ?_, Hb3.out⟩; have hz := HZ.out; omega)
          case measure => simp [intOf]; omega
      · have HZ : Hid (¬ pa = 0) := (by simpa using h0 : ¬ pa = 0)
        go_wp2_with (go_at_call 93; refine (lesser_any _ _ _ bd bs).mono ?_; rintro e w4 ⟨rfl, rfl⟩)
        all_goals
          go_roundw
          case rel =>
            first
              | (refine ⟨k + 1, _, _, _, by omega, by go_num, rfl, rfl, rfl, price_yes HP.out ?_, Hb3.out⟩; have hz := HZ.out; omega)
              | (refine ⟨k + 1, _, _, _, by omega, by go_num, rfl, rfl, rfl, price_no HP.out ?_, Hb3.out⟩; have hz := HZ.out; omega)
          case measure => simp [intOf]; omega
    · obtain rfl : k = 99 := by omega
      have HB : Hid (pa = Mk.best l 98 ∧ pb = Mk.vol l (Mk.best l 98)) := by
        rcases hP with ⟨h, _⟩ | ⟨m, h, h1, h2, _⟩
        · omega
        · obtain rfl : m = 98 := by omega
          exact ⟨h1, h2⟩
      clear hP
      go_wp2
      go_ret2
      exact ⟨by rw [← HB.out.2, ← HB.out.1]; rfl, Hb.out⟩

end Go.Proofs.YtmebcdpdpcpnmaaGreatDoor
