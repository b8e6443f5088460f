import Derived.Test.YtmebcdpdpcpnmaaGreatDoorJ15
import Derived.Deep.QuietTactic
import Derived.BigQuiet
import Derived.Test.YtmebcdpdpcpnmaaGreatDoorJ2
namespace Go.Proofs.YtmebcdpdpcpnmaaGreatDoor
open Go.RowKit

theorem aheadN_lt {a b : Int} {i k : Nat} (h : b < a) : Mk.aheadN a b i k = true := by simp [Mk.aheadN, h]
theorem aheadN_eq {a b : Int} {i k : Nat} (h : a = b) : Mk.aheadN a b i k = decide (i < k) := by simp [Mk.aheadN, h]
theorem aheadN_ne {a b : Int} {i k : Nat} (h : ¬ a = b) : decide (b < a) = Mk.aheadN a b i k := by simp [Mk.aheadN, h]

set_option maxHeartbeats 1000000 in
theorem ahead_any (b off cap n i k : Nat) (qi qk v t : Int) (w : World) (hi : i < n) (hk : k < n) (bt : 1 ≤ t) (m1 : 0 ≤ v * qi ∧ v * qi ≤ 4800) (m2 : 0 ≤ v * qk ∧ v * qk ≤ 4800)
    (ci : w.cell? ⟨b, off + i * 3 + 1 + 1, none⟩ = some (.int .i64 qi)) (ck : w.cell? ⟨b, off + k * 3 + 1 + 1, none⟩ = some (.int .i64 qk)) :
    Calls Tryz.prog 94 #[.slice (some ⟨b, off, none⟩) n cap, .int .i64 i, .int .i64 k, .int .i64 v, .int .i64 t] w fun e w' => e = .returned (.bool (Mk.aheadN (v * qi % t) (v * qk % t) i k)) ∧ w' = w := by
  have hi' : (i : Int) < (n : Int) := by omega
  have hk' : (k : Int) < (n : Int) := by omega
  go_enter Tryz.func94, Tryz.ntmps94
  go_wp2
  all_goals
    go_ret
    refine ⟨ret_bool ?_, rfl⟩
    first
      | exact (aheadN_lt (by assumption)).symm
      | exact (aheadN_eq (by assumption)).symm
      | exact aheadN_ne (by assumption)

theorem share_yes_i {l : List Mk.Ord} {k : Nat} (hk : k < l.length) (p v t : Int) (b : Bool) (hw : Mk.willB l[k].sell l[k].price p = true) (hs : l[k].sell = b) : Mk.rpart l p v t b k = v * l[k].qty / t ∧ Mk.inSide l p b k = true := by
  have : Mk.inSide l p b k = true := by unfold Mk.inSide; rw [Mk.getD_at hk, hw, hs]; simp
  exact ⟨by unfold Mk.rpart; rw [this, Mk.getD_at hk]; rfl, this⟩
theorem share_no_i {l : List Mk.Ord} {k : Nat} (hk : k < l.length) (p v t : Int) (b : Bool) (h : Mk.willB l[k].sell l[k].price p = false ∨ l[k].sell ≠ b) : Mk.rpart l p v t b k = 0 ∧ Mk.inSide l p b k = false := by
  have : Mk.inSide l p b k = false := by
    unfold Mk.inSide; rw [Mk.getD_at hk]
    rcases h with h | h
    · rw [h]; rfl
    · have : (l[k].sell == b) = false := by simpa using h
      rw [this, Bool.and_false]
  exact ⟨by unfold Mk.rpart; rw [this]; rfl, this⟩
theorem rpart_bd {l : List Mk.Ord} (hv : Mk.validB 20 l = true) {v t : Int} (bv : 0 ≤ v ∧ v ≤ 240) (bt : 1 ≤ t) (p : Int) (b : Bool) (j : Nat) : 0 ≤ Mk.rpart l p v t b j ∧ Mk.rpart l p v t b j ≤ 4800 := by
  unfold Mk.rpart
  split
  · refine Mk.div_bd (Mk.mul_bd bv ?_) bt
    by_cases h : j < l.length
    · have := (Mk.ok_of_valid hv).2 l[j] (List.getElem_mem h)
      rw [Mk.getD_at h]; omega
    · simp [List.getD, List.getElem?_eq_none (Nat.le_of_not_lt h), Mk.ozero]
  · omega

set_option maxRecDepth 100000 in
set_option maxHeartbeats 2000000 in
theorem rshare_some (b off cap : Nat) (l : List Mk.Ord) (i : Nat) (p v t : Int) (w : World) (hi : i < l.length) (hv : Mk.validB 20 l = true) (bv : 0 ≤ v ∧ v ≤ 240) (bt : 1 ≤ t) (hR : At w b off l) :
    Calls Tryz.prog 65 #[.slice (some ⟨b, off, none⟩) l.length cap, .int .i64 i, .int .i64 p, .int .i64 v, .int .i64 t] w fun e w' => e = .returned (.int .i64 (Mk.rshare l p v t i)) ∧ Below w.heap.size w w' := by
  obtain ⟨h12, hok⟩ := Mk.ok_of_valid hv
  have HV : Hid (Mk.validB 20 l = true) := hv
  have HO : Hid (∀ o ∈ l, 1 ≤ o.price ∧ o.price ≤ 99 ∧ 1 ≤ o.qty ∧ o.qty ≤ 20) := hok
  have HR : Hid (At w b off l) := hR
  have hqi := hok _ (List.getElem_mem hi)
  have mi := Mk.mul_bd bv (show 0 ≤ l[i].qty ∧ l[i].qty ≤ 20 by omega)
  have di := Mk.div_bd mi bt
  have hi' : (i : Int) < (l.length : Int) := by omega
  clear hv hok hR hqi
  go_enter Tryz.func65, Tryz.ntmps65
  go_wp2
  go_loopw [11, 12, 13] (fun lf rk j wr => ∃ k : Nat, k ≤ l.length ∧ j = .int .i64 k ∧ lf = .int .i64 (v - Mk.sumn (Mk.rpart l p v t l[i].sell) k) ∧ rk = .int .i64 (Mk.cnt (Mk.rahead l p v t i) k) ∧ Below w.heap.size w wr) (fun _ _ j _ => l.length - (intOf j).toNat)
  case atStart => exact ⟨0, Nat.zero_le _, rfl, by simp [Mk.sumn], rfl, Below.refl _ _⟩
  case round =>
    obtain ⟨k, hk, rfl, rfl, rfl, hb⟩ := hrel
    have Hb : Hid (Below w.heap.size w wr) := hb
    clear hb
    have sb := Mk.sumn_bd (Mk.rpart l p v t l[i].sell) 4800 (fun j => rpart_bd HV.out bv bt p _ j) k
    have cb := Mk.cnt_le (Mk.rahead l p v t i) k
    obtain ⟨sb1, sb2⟩ : 0 ≤ Mk.sumn (Mk.rpart l p v t l[i].sell) k ∧ Mk.sumn (Mk.rpart l p v t l[i].sell) k ≤ 57600 := by omega
    clear sb
    have HAr : Hid (At wr b off l) := HR.out.below Hb.out
    obtain ⟨ci0, ci1, ci2⟩ := HAr.out i hi
    have hbl := blk_lt ci0
    by_cases hlt : k < l.length
    · obtain ⟨c0, c1, c2⟩ := HAr.out k hlt
      have hq := HO.out _ (List.getElem_mem hlt)
      have mk := Mk.mul_bd bv (show 0 ≤ l[k].qty ∧ l[k].qty ≤ 20 by omega)
      have dk := Mk.div_bd mk bt
      clear hq
      have hlt' : (k : Int) < (l.length : Int) := by omega
      have HS : Hid (Mk.sumn (Mk.rpart l p v t l[i].sell) (k + 1) = Mk.sumn (Mk.rpart l p v t l[i].sell) k + Mk.rpart l p v t l[i].sell k) := rfl
      rcases Bool.eq_false_or_eq_true (Mk.willB l[k].sell l[k].price p) with hw | hw
      · by_cases hs : l[k].sell = l[i].sell
        · obtain ⟨e1, e2⟩ := share_yes_i hlt p v t l[i].sell hw hs
          have HE1 : Hid (Mk.rpart l p v t l[i].sell k = v * l[k].qty / t) := e1
          have er : Mk.rahead l p v t i k = Mk.aheadN (v * l[k].qty % t) (v * l[i].qty % t) k i := by unfold Mk.rahead; rw [Mk.getD_at hi, Mk.getD_at hlt, e2]; rfl
          have hs' : (l[k].sell == l[i].sell) = true := by simpa using hs
          have HAo : Hid (∀ o m, At ((wr.alloc o).drewN m) b off l) := fun o m => HAr.out.below (below_drewN ((Below.refl _ _).alloc (Nat.le_refl _) o) m)
          clear e1 e2 hs
          rcases Bool.eq_false_or_eq_true (Mk.aheadN (v * l[k].qty % t) (v * l[i].qty % t) k i) with hah | hah
          ·
            have HE2 : Hid (Mk.rahead l p v t i k = true) := er.trans hah
            clear er
            go_wp2_with (go_at_call 63; refine (rwilling_any _ _ _ _ _).mono ?_; rintro e w' ⟨rfl, rfl⟩)
            go_quiet (fail)
            go_wp2_with (go_at_call 94; refine (ahead_any b off cap l.length k i l[k].qty l[i].qty v t _ hlt hi bt mk mi (HAo.out _ _ k hlt).2.2 (HAo.out _ _ i hi).2.2).mono ?_; rintro e w' ⟨rfl, rfl⟩)
            go_roundw
            case rel => exact ⟨k + 1, by omega, by go_num, by rw [HS.out, HE1.out]; go_num, by rw [Mk.cnt_yes HE2.out], below_drewN (Hb.out.alloc Hb.out.size _) _⟩
            case measure => simp [intOf]; omega
          ·
            have HE2 : Hid (Mk.rahead l p v t i k = false) := er.trans hah
            clear er
            go_wp2_with (go_at_call 63; refine (rwilling_any _ _ _ _ _).mono ?_; rintro e w' ⟨rfl, rfl⟩)
            go_quiet (fail)
            go_wp2_with (go_at_call 94; refine (ahead_any b off cap l.length k i l[k].qty l[i].qty v t _ hlt hi bt mk mi (HAo.out _ _ k hlt).2.2 (HAo.out _ _ i hi).2.2).mono ?_; rintro e w' ⟨rfl, rfl⟩)
            go_roundw
            case rel => exact ⟨k + 1, by omega, by go_num, by rw [HS.out, HE1.out]; go_num, by rw [Mk.cnt_no HE2.out], below_drewN (Hb.out.alloc Hb.out.size _) _⟩
            case measure => simp [intOf]; omega
        · obtain ⟨e1, e2⟩ := share_no_i hlt p v t l[i].sell (.inr hs)
          have HE1 : Hid (Mk.rpart l p v t l[i].sell k = 0) := e1
          have HE2 : Hid (Mk.rahead l p v t i k = false) := (by unfold Mk.rahead; rw [Mk.getD_at hi, e2]; rfl : Mk.rahead l p v t i k = false)
          have hs' : (l[k].sell == l[i].sell) = false := by simpa using hs
          clear e1 e2 hs
          go_wp2_with (go_at_call 63; refine (rwilling_any _ _ _ _ _).mono ?_; rintro e w' ⟨rfl, rfl⟩)
          go_quiet (fail)
          go_wp2
          go_roundw
          case rel => exact ⟨k + 1, by omega, by go_num, by rw [HS.out, HE1.out, Int.add_zero], by rw [Mk.cnt_no HE2.out], below_drewN (Hb.out.alloc Hb.out.size _) _⟩
          case measure => simp [intOf]; omega
      · obtain ⟨e1, e2⟩ := share_no_i hlt p v t l[i].sell (.inl hw)
        have HE1 : Hid (Mk.rpart l p v t l[i].sell k = 0) := e1
        have HE2 : Hid (Mk.rahead l p v t i k = false) := (by unfold Mk.rahead; rw [Mk.getD_at hi, e2]; rfl : Mk.rahead l p v t i k = false)
        clear e1 e2
        go_wp2_with (go_at_call 63; refine (rwilling_any _ _ _ _ _).mono ?_; rintro e w' ⟨rfl, rfl⟩)
        go_quiet (fail)
        go_wp2
        go_roundw
        case rel => exact ⟨k + 1, by omega, by go_num, by rw [HS.out, HE1.out, Int.add_zero], by rw [Mk.cnt_no HE2.out], below_drewN (Hb.out.alloc Hb.out.size _) _⟩
        case measure => simp [intOf]; omega
    · obtain rfl : k = l.length := by omega
      by_cases hc : (Mk.cnt (Mk.rahead l p v t i) l.length : Int) < v - Mk.sumn (Mk.rpart l p v t l[i].sell) l.length
      · have HX : Hid (v * l[i].qty / t + 1 = Mk.rshare l p v t i) := (by unfold Mk.rshare; rw [Mk.getD_at hi, if_pos hc] : v * l[i].qty / t + 1 = Mk.rshare l p v t i)
        go_wp2
        go_ret
        exact ⟨ret_int HX.out, Hb.out⟩
      · have HX : Hid (v * l[i].qty / t = Mk.rshare l p v t i) := (by unfold Mk.rshare; rw [Mk.getD_at hi, if_neg hc]; omega : v * l[i].qty / t = Mk.rshare l p v t i)
        go_wp2
        go_ret
        exact ⟨ret_int HX.out, Hb.out⟩

end Go.Proofs.YtmebcdpdpcpnmaaGreatDoor

namespace Go.Proofs.YtmebcdpdpcpnmaaGreatDoor
open Go.RowKit

theorem rsum_dem (a : Option Addr) (cap : Nat) (l : List Mk.Ord) (p : Int) (w : World) (hv : Mk.validB 20 l = true) (hR : Rd w a l) :
    Calls Tryz.prog 64 #[.slice a l.length cap, .bool false, .int .i64 p] w fun e w' => e = .returned (.int .i64 (Mk.dem l p)) ∧ Below w.heap.size w w' := rsum_any a cap l false p w hv hR
theorem rsum_sup (a : Option Addr) (cap : Nat) (l : List Mk.Ord) (p : Int) (w : World) (hv : Mk.validB 20 l = true) (hR : Rd w a l) :
    Calls Tryz.prog 64 #[.slice a l.length cap, .bool true, .int .i64 p] w fun e w' => e = .returned (.int .i64 (Mk.sup l p)) ∧ Below w.heap.size w w' := rsum_any a cap l true p w hv hR

/-- what Price holds behind k rounds -/
def PriceAt (l : List Mk.Ord) (k : Nat) (a b c : Int) : Prop := (k = 0 ∧ a = 0 ∧ b = 0 ∧ c = 0) ∨ ∃ m, k = m + 1 ∧ a = Mk.best l m ∧ b = Mk.vol l (Mk.best l m) ∧ c = Mk.gap l (Mk.best l m)

theorem price_yes {l : List Mk.Ord} {k : Nat} {pa pb pc a b c : Int} (h : PriceAt l k pa pb pc)
    (hc : (a = (k : Int) + 1 ∧ b = Mk.less (Mk.dem l ((k : Int) + 1)) (Mk.sup l ((k : Int) + 1)) ∧ c = Mk.apart (Mk.dem l ((k : Int) + 1)) (Mk.sup l ((k : Int) + 1))) ∧
      (pa = 0 ∨ pb < Mk.less (Mk.dem l ((k : Int) + 1)) (Mk.sup l ((k : Int) + 1)) ∨ Mk.less (Mk.dem l ((k : Int) + 1)) (Mk.sup l ((k : Int) + 1)) = pb ∧ Mk.apart (Mk.dem l ((k : Int) + 1)) (Mk.sup l ((k : Int) + 1)) < pc)) : PriceAt l (k + 1) a b c := by
  obtain ⟨⟨rfl, rfl, rfl⟩, hc⟩ := hc
  right
  rcases h with ⟨rfl, _⟩ | ⟨m, rfl, rfl, rfl, rfl⟩
  · exact ⟨0, rfl, by simp [Mk.best], by simp [Mk.best, Mk.vol], by simp [Mk.best, Mk.gap]⟩
  · have e : ((m + 1 : Nat) : Int) + 1 = (m : Int) + 2 := by omega
    rw [e] at hc ⊢
    have hb := Mk.best_bd l m
    have hbt : Mk.best l (m + 1) = m + 2 := Mk.best_yes l m ((Mk.better_iff l _ _).2 (by
      rcases hc with h0 | h1 | ⟨h2, h3⟩
      · omega
      · exact .inl h1
      · exact .inr ⟨h2, h3⟩))
    refine ⟨m + 1, rfl, ?_, ?_, ?_⟩
    · rw [hbt]; omega
    · rw [hbt]; rfl
    · rw [hbt]; rfl
theorem price_no {l : List Mk.Ord} {k : Nat} {pa pb pc : Int} (h : PriceAt l k pa pb pc)
    (hc : ¬ (pa = 0 ∨ pb < Mk.less (Mk.dem l ((k : Int) + 1)) (Mk.sup l ((k : Int) + 1)) ∨ Mk.less (Mk.dem l ((k : Int) + 1)) (Mk.sup l ((k : Int) + 1)) = pb ∧ Mk.apart (Mk.dem l ((k : Int) + 1)) (Mk.sup l ((k : Int) + 1)) < pc)) : PriceAt l (k + 1) pa pb pc := by
  right
  rcases h with ⟨rfl, rfl, _, _⟩ | ⟨m, rfl, rfl, rfl, rfl⟩
  · exact absurd (.inl rfl) hc
  · have e : ((m + 1 : Nat) : Int) + 1 = (m : Int) + 2 := by omega
    rw [e] at hc
    have hbt : Mk.best l (m + 1) = Mk.best l m := Mk.best_no l m (by
      rw [← Bool.not_eq_true, Mk.better_iff]
      intro h
      apply hc
      rcases h with h1 | ⟨h2, h3⟩
      · exact .inr (.inl h1)
      · exact .inr (.inr ⟨h2, h3⟩))
    refine ⟨m + 1, rfl, ?_, ?_, ?_⟩ <;> rw [hbt]

set_option maxRecDepth 100000 in
set_option maxHeartbeats 2000000 in
theorem price_any (a : Option Addr) (cap : Nat) (l : List Mk.Ord) (w : World) (hv : Mk.validB 20 l = true) (hR : Rd w a l) :
    Calls Tryz.prog 62 #[.slice a l.length cap] w fun e w' => e = .returned (.tuple #[.int .i64 (Mk.best l 98), .int .i64 (Mk.vol l (Mk.best l 98))]) ∧ Below w.heap.size w w' := by
  have HR : Hid (Rd w a l) := hR
  have HV : Hid (Mk.validB 20 l = true) := hv
  clear hR hv
  go_enter Tryz.func62, Tryz.ntmps62
  go_wp2
  go_loopw [4, 5, 6, 7] (fun x y z i wr => ∃ (k : Nat) (pa pb pc : Int), k ≤ 99 ∧ i = .int .i64 ((k : Int) + 1) ∧ x = .int .i64 pa ∧ y = .int .i64 pb ∧ z = .int .i64 pc ∧ PriceAt l k pa pb pc ∧ Below w.heap.size w wr) (fun _ _ _ i _ => 100 - (intOf i).toNat)
  case atStart => exact ⟨0, 0, 0, 0, by omega, rfl, rfl, rfl, rfl, .inl ⟨rfl, rfl, rfl, rfl⟩, Below.refl _ _⟩
  case round =>
    obtain ⟨k, pa, pb, pc, hk, rfl, rfl, rfl, rfl, hP, hb⟩ := hrel
    have Hb : Hid (Below w.heap.size w wr) := hb
    clear hb
    by_cases hlt : k < 99
    · have hlt' : ((k : Int) + 1) ≤ 99 := by omega
      have bd := Mk.dem_bd HV.out ((k : Int) + 1)
      have bs := Mk.sup_bd HV.out ((k : Int) + 1)
      have HP : Hid (PriceAt l k pa pb pc) := hP
      clear hP
      go_wp2_with fail
      refine (rsum_dem a cap l _ _ HV.out (HR.out.below Hb.out)).mono ?_
      rintro e w2 ⟨rfl, hb2⟩
      have Hb2 : Hid (Below w.heap.size w w2) := Hb.out.trans (hb2.mono Hb.out.size)
      clear hb2
      go_wp2_with fail
      refine (rsum_sup a cap l _ _ HV.out (HR.out.below Hb2.out)).mono ?_
      rintro e w3 ⟨rfl, hb3⟩
      have Hb3 : Hid (Below w.heap.size w w3) := Hb2.out.trans (hb3.mono Hb2.out.size)
      clear hb3
      rcases Bool.eq_false_or_eq_true (pa == 0) with h0 | h0
      · have HZ : Hid (pa = 0) := (by simpa using h0 : pa = 0)
        go_wp2_with (go_at_call 93; refine (lesser_any _ _ _ bd bs).mono ?_; rintro e w4 ⟨rfl, rfl⟩)
        all_goals
          go_roundw
          case rel =>
            first
              | (refine ⟨k + 1, _, _, _, by omega, by go_num, rfl, rfl, rfl, price_yes HP.out ?_, Hb3.out⟩; have hz := HZ.out; omega)
              | (refine ⟨k + 1, _, _, _, by omega, by go_num, rfl, rfl, rfl, price_no HP.out ?_, Hb3.out⟩; have hz := HZ.out; omega)
          case measure => simp [intOf]; omega
      · have HZ : Hid (¬ pa = 0) := (by simpa using h0 : ¬ pa = 0)
        go_wp2_with (go_at_call 93; refine (lesser_any _ _ _ bd bs).mono ?_; rintro e w4 ⟨rfl, rfl⟩)
        all_goals
          go_roundw
          case rel =>
            first
              | (refine ⟨k + 1, _, _, _, by omega, by go_num, rfl, rfl, rfl, price_yes HP.out ?_, Hb3.out⟩; have hz := HZ.out; omega)
              | (refine ⟨k + 1, _, _, _, by omega, by go_num, rfl, rfl, rfl, price_no HP.out ?_, Hb3.out⟩; have hz := HZ.out; omega)
          case measure => simp [intOf]; omega
    · obtain rfl : k = 99 := by omega
      have HB : Hid (pa = Mk.best l 98 ∧ pb = Mk.vol l (Mk.best l 98)) := by
        rcases hP with ⟨h, _⟩ | ⟨m, h, h1, h2, _⟩
        · omega
        · obtain rfl : m = 98 := by omega
          exact ⟨h1, h2⟩
      clear hP
      go_wp2
      go_ret2
      exact ⟨by rw [← HB.out.2, ← HB.out.1]; rfl, Hb.out⟩

end Go.Proofs.YtmebcdpdpcpnmaaGreatDoor

namespace Go.Proofs.YtmebcdpdpcpnmaaGreatDoor
open Go.RowKit

set_option maxHeartbeats 1000000 in
theorem runiform_bad (a : Option Addr) (cap : Nat) (l : List Mk.Ord) (w : World) (hv : Mk.validB 20 l = false) (hR : Rd w a l) :
    Calls Tryz.prog 42 #[.slice a l.length cap] w fun e w' => e = .returned (.tuple #[.slice none 0 0, .int .i64 0, .int .i64 1]) ∧ Below w.heap.size w w' := by
  have HR : Hid (Rd w a l) := hR
  clear hR
  go_enter Tryz.func42, Tryz.ntmps42
  go_wp2_with (go_at_call 61; refine (are_any a cap l _ HR.out).mono ?_; rintro e w1 ⟨rfl, hw1⟩; obtain rfl := hw1.symm)
  go_ret3
  exact ⟨rfl, Below.refl _ _⟩

set_option maxHeartbeats 1000000 in
theorem runiform_zero (a : Option Addr) (cap : Nat) (l : List Mk.Ord) (w : World) (hv : Mk.validB 20 l = true) (hR : Rd w a l) (hz : Mk.vol l (Mk.best l 98) = 0) :
    Calls Tryz.prog 42 #[.slice a l.length cap] w fun e w' => ∃ g, e = .returned (.tuple #[.slice (some ⟨g, 0, none⟩) l.length l.length, .int .i64 0, .int .i64 0]) ∧ w.heap.size ≤ g ∧ Below w.heap.size w w' ∧ w'.rowIs g 3 l.length (fun _ => .int .i64 0) := by
  have HR : Hid (Rd w a l) := hR
  have HV : Hid (Mk.validB 20 l = true) := hv
  have h12 := (Mk.ok_of_valid hv).1
  have hz' : (Mk.vol l (Mk.best l 98) == 0) = true := by simpa using hz
  have hmk := run_make_row' (P := Tryz.prog) 53 3 (.int .i64 0) 8 Tryz.underlying53 Tryz.infoInt rfl .i64 .i64 l.length (by omega) (by omega)
  clear hR hz
  go_enter Tryz.func42, Tryz.ntmps42
  go_wp2_with fail
  refine (are_any a cap l _ HR.out).mono ?_
  rintro e w1 ⟨rfl, hw1⟩
  obtain rfl := hw1.symm
  go_wp2_with fail
  refine (price_any a cap l _ HV.out (HR.out.below ((Below.refl _ _).alloc (Nat.le_refl _) _))).mono ?_
  rintro e w2 ⟨rfl, hb2⟩
  have HRow : Hid (w2.rowIs w.heap.size 3 l.length (fun _ => .int .i64 0)) := row_below (World.rowIs_made w (.int .i64 0) l.length 3) hb2 (by simp)
  have HB : Hid (Below w.heap.size w w2) := ((Below.refl _ _).alloc (Nat.le_refl _) _).trans (hb2.mono (by simp))
  clear hb2
  go_wp2
  go_ret3
  exact ⟨w.heap.size, rfl, Nat.le_refl _, HB.out, HRow.out⟩

set_option maxRecDepth 100000 in
set_option maxHeartbeats 2000000 in
theorem runiform_some (b off cap : Nat) (l : List Mk.Ord) (p : Int) (hp : p = Mk.best l 98) (w : World) (hv : Mk.validB 20 l = true) (hR : At w b off l) (hz : 1 ≤ Mk.vol l p) :
    Calls Tryz.prog 42 #[.slice (some ⟨b, off, none⟩) l.length cap] w fun e w' => ∃ g, e = .returned (.tuple #[.slice (some ⟨g, 0, none⟩) l.length l.length, .int .i64 p, .int .i64 0]) ∧ w.heap.size ≤ g ∧ Below w.heap.size w w' ∧ w'.rowIs g 3 l.length (fun i => .int .i64 (Mk.getsf l (Mk.dem l p) (Mk.sup l p) p i)) := by
  have HA : Hid (At w b off l) := hR
  have HR : Hid (Rd w (some ⟨b, off, none⟩) l) := .inr ⟨b, off, rfl, hR⟩
  have HV : Hid (Mk.validB 20 l = true) := hv
  have HZ : Hid (1 ≤ Mk.vol l p) := hz
  have h12 := (Mk.ok_of_valid hv).1
  have hz' : (Mk.vol l p == 0) = false := by simp; omega
  have bv := Mk.less_bd (Mk.dem_bd hv p) (Mk.sup_bd hv p)
  have bv' : 0 ≤ Mk.vol l p ∧ Mk.vol l p ≤ 240 := bv
  have hmk := run_make_row' (P := Tryz.prog) 53 3 (.int .i64 0) 8 Tryz.underlying53 Tryz.infoInt rfl .i64 .i64 l.length (by omega) (by omega)
  have hprice := fun (w : World) (hR : Rd w (some ⟨b, off, none⟩) l) => price_any (some ⟨b, off, none⟩) cap l w hv hR
  rw [← hp] at hprice
  have HPr : Hid (∀ (w : World), Rd w (some ⟨b, off, none⟩) l → Calls Tryz.prog 62 #[.slice (some ⟨b, off, none⟩) l.length cap] w fun e w' => e = .returned (.tuple #[.int .i64 p, .int .i64 (Mk.vol l p)]) ∧ Below w.heap.size w w') := hprice
  clear hR hz hp hprice bv
  go_enter Tryz.func42, Tryz.ntmps42
  go_wp2_with fail
  refine (are_any _ cap l _ HR.out).mono ?_
  rintro e w1 ⟨rfl, hw1⟩
  obtain rfl := hw1.symm
  go_wp2_with fail
  refine (HPr.out _ (HR.out.below ((Below.refl _ _).alloc (Nat.le_refl _) _))).mono ?_
  rintro e w2 ⟨rfl, hb2⟩
  have HRow : Hid (w2.rowIs w.heap.size 3 l.length (fun _ => .int .i64 0)) := row_below (World.rowIs_made w (.int .i64 0) l.length 3) hb2 (by simp)
  have HB : Hid (Below w.heap.size w w2) := ((Below.refl _ _).alloc (Nat.le_refl _) _).trans (hb2.mono (by simp))
  clear hb2 hmk
  go_wp2
  go_loopw [9] (fun i wr => ∃ k : Nat, k ≤ l.length ∧ i = .int .i64 k ∧ wr.rowIs w.heap.size 3 l.length (fun j => .int .i64 (if j < k then Mk.getsf l (Mk.dem l p) (Mk.sup l p) p j else 0)) ∧ Below w.heap.size w wr) (fun i _ => l.length - (intOf i).toNat)
  case atStart => exact ⟨0, Nat.zero_le _, rfl, World.rowIs.congr HRow.out (fun j _ => by simp), HB.out⟩
  case round =>
    clear HRow HB
    obtain ⟨k, hk, rfl, hrow, hb⟩ := hrel
    have Hb : Hid (Below w.heap.size w wr) := hb
    have HRw : Hid (wr.rowIs w.heap.size 3 l.length (fun j => .int .i64 (if j < k then Mk.getsf l (Mk.dem l p) (Mk.sup l p) p j else 0))) := hrow
    clear hb hrow
    have HAr : Hid (At wr b off l) := HA.out.below Hb.out
    by_cases hlt : k < l.length
    · obtain ⟨c0, c1, c2⟩ := HAr.out k hlt
      have hbl := blk_lt c0
      have hlt' : (k : Int) < (l.length : Int) := by omega
      rcases Bool.eq_false_or_eq_true (Mk.willB l[k].sell l[k].price p) with hw | hw
      · have HG : Hid (Mk.rshare l p (Mk.vol l p) (Mk.side l l[k].sell p) k = Mk.getsf l (Mk.dem l p) (Mk.sup l p) p k) := by
          have := Mk.rshare_is HZ.out (i := k) (by rw [Mk.getD_at hlt]; exact hw)
          rw [Mk.getD_at hlt, ← Mk.side_is] at this
          exact this
        have ht : 1 ≤ Mk.side l l[k].sell p := by
          rw [Mk.side_is]
          have := Mk.one_le HZ.out
          unfold Mk.sideT
          split <;> omega
        go_wp2_with (go_at_call 63; refine (rwilling_any _ _ _ _ _).mono ?_; rintro e w' ⟨rfl, rfl⟩)
        refine (rsum_some b off cap l l[k].sell p _ HV.out (HAr.out.below ((Below.refl _ _).alloc (Nat.le_refl _) _))).mono ?_
        rintro e w3 ⟨rfl, hb3⟩
        have HB3 : Hid (Below wr.heap.size wr w3) := ((Below.refl _ _).alloc (Nat.le_refl _) _).trans (hb3.mono (by simp))
        clear hb3
        go_wp2_with fail
        refine (rshare_some b off cap l k p _ _ _ hlt HV.out bv' ht (HAr.out.below HB3.out)).mono ?_
        rintro e w4 ⟨rfl, hb4⟩
        have HB4 : Hid (Below wr.heap.size wr w4) := HB3.out.trans (hb4.mono HB3.out.size)
        clear hb4
        have HR4 := row_below HRw.out HB4.out (World.rowIs.lt HRw.out)
        have gc := World.rowIs.cell HR4 hlt
        have gf := World.rowIs.frozen HR4 k
        have HR5 : Hid (w4.rowIs w.heap.size 3 l.length (fun j => .int .i64 (if j < k then Mk.getsf l (Mk.dem l p) (Mk.sup l p) p j else 0))) := HR4
        clear HR4
        simp only [Nat.lt_irrefl, if_false] at gc
        go_wp2
        go_roundw
        case rel =>
          refine ⟨k + 1, by omega, by go_num, World.rowIs.congr (World.rowIs.set HR5.out k _) (fun j _ => ?_), (Hb.out.trans (HB4.out.mono Hb.out.size)).setCell (Nat.le_refl _) _⟩
          have := Mk.step_on (G := Mk.getsf l (Mk.dem l p) (Mk.sup l p) p) (k := k) HG.out.symm j
          rw [← this]
          by_cases e : j = k <;> simp [e]
        case measure => simp [intOf]; omega
      · have hf0 := Mk.unwilling HZ.out hlt hw
        have HF : Hid (Mk.getsf l (Mk.dem l p) (Mk.sup l p) p k = 0) := hf0
        clear hf0
        go_wp2_with (go_at_call 63; refine (rwilling_any _ _ _ _ _).mono ?_; rintro e w' ⟨rfl, rfl⟩)
        go_roundw
        case rel => exact ⟨k + 1, by omega, by go_num, World.rowIs.congr (World.rowIs.alloc HRw.out _) (fun j _ => by rw [Mk.step_off (G := Mk.getsf l (Mk.dem l p) (Mk.sup l p) p) HF.out]), Hb.out.alloc Hb.out.size _⟩
        case measure => simp [intOf]; omega
    · obtain rfl : k = l.length := by omega
      go_wp2
      go_ret3
      exact ⟨w.heap.size, rfl, Nat.le_refl _, Hb.out, World.rowIs.congr HRw.out (fun j hj => by rw [if_pos hj])⟩

theorem runiform_any (a : Option Addr) (cap : Nat) (l : List Mk.Ord) (w : World) (hv : Mk.validB 20 l = true) (hR : Rd w a l) :
    Calls Tryz.prog 42 #[.slice a l.length cap] w fun e w' => ∃ g, e = .returned (.tuple #[.slice (some ⟨g, 0, none⟩) l.length l.length, .int .i64 (Mk.price l), .int .i64 0]) ∧ w.heap.size ≤ g ∧ Below w.heap.size w w' ∧ w'.rowIs g 3 l.length (fun i => .int .i64 (Mk.uni l i)) := by
  by_cases hz : Mk.vol l (Mk.best l 98) = 0
  · unfold Mk.price Mk.uni
    simp only [hz, if_true]
    exact runiform_zero a cap l w hv hR hz
  · rcases hR with rfl | ⟨b, off, rfl, hR⟩
    · exact absurd (Mk.vol_nil _) hz
    · unfold Mk.price Mk.uni
      simp only [hz, if_false]
      refine runiform_some b off cap l _ rfl w hv hR ?_
      have := (Mk.less_bd (Mk.dem_bd hv (Mk.best l 98)) (Mk.sup_bd hv (Mk.best l 98))).1
      have h2 : 0 ≤ Mk.vol l (Mk.best l 98) := this
      omega

end Go.Proofs.YtmebcdpdpcpnmaaGreatDoor
